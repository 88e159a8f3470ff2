import Derived.Test.YtmdkdkiejcjmaaaXg
import Derived.Test.YtmdkdkiejcjmaaaXe
import Derived.Test.YtmdkdkiejcjmaaaGr
import Derived.Test.YtmdkdkiejcjmaaaXm
/- Package selionref08: With. -/
namespace Go.Proofs.Ytmdkdkiejcjmaaa
open Go.RowKit Go.Shelf
theorem appended {w2 wr w6 : World} {g : Nat} {c0 c1 : Value} {aoN aoL : Option Addr} {nF capN capL : Nat} {F : List Int} {L : List (Int × Int)} {x y : Int} {v6 : Value} {i1 : TypeInfo} (_ : Try.prog.info? 64 = some i1)
    (HB : Below w2.heap.size w2 wr) (hrow : wr.heap[g]? = some (.cells #[c0, c1, .slice aoL L.length capL] 25 (0, 0))) (HO1 : wr.ownsRow w2.heap.size 3 1 (.slice aoN nF capN) nF (F.map (Value.int .i64)))
    (HO2 : wr.ownsRow w2.heap.size 64 2 (.slice aoL L.length capL) L.length (flat2 L)) (h6 : w6.ownsRow w2.heap.size 64 2 v6 (L.length + 1) (flat2 L ++ [.int .i64 x, .int .i64 y]))
    (hg : (wr.alloc (.cells #[.int .i64 x, .int .i64 y] 64)).grownBy w6 (Value.ownBlock (.slice aoL L.length capL))) :
    ∃ (ao : Option Addr) (cap : Nat), v6 = .slice ao (L.length + 1) cap ∧ Below w2.heap.size w2 w6 ∧ w6.heap[g]? = some (.cells #[c0, c1, .slice aoL L.length capL] 25 (0, 0)) ∧ w6.ownsRow w2.heap.size 3 1 (.slice aoN nF capN) nF (F.map (Value.int .i64)) ∧ w6.ownsRow w2.heap.size 64 2 (.slice ao (L.length + 1) cap) (L.length + 1) (flat2 (L ++ [(x, y)])) := by
  have h7 : w6.ownsRow w2.heap.size 64 2 v6 (L.length + 1) (flat2 (L ++ [(x, y)])) := by rw [flat2_app]; exact h6
  obtain ⟨ao, cap, rfl, -, -⟩ := own_pts2 h7 (by simp)
  have o2a := HO2.alloc (.cells #[.int .i64 x, .int .i64 y] 64)
  have hba := HB.alloc HB.size (.cells #[.int .i64 x, .int .i64 y] 64)
  have hoff : ∀ q, Value.ownBlock (.slice aoL L.length capL) = some q → ∀ (t : TypeId), t ≠ 64 → ∀ cs fr, (wr.alloc (.cells #[.int .i64 x, .int .i64 y] 64)).heap[q]? ≠ some (.cells cs t fr) := fun q hq t ht cs fr h => by
    obtain ⟨c, h2⟩ := own_row o2a q hq
    rw [h] at h2
    simp only [Option.some.injEq, Obj.cells.injEq] at h2
    exact ht h2.2.1
  exact ⟨ao, cap, rfl, hba.grown hg hba.size (fun q hq => (o2a.lt _ hq).1), heap_grown (heap_keep ((Below.refl _ wr).alloc (Nat.le_refl _) _) hrow) hg (fun q hq => hoff q hq _ (by decide)), own_grown (HO1.alloc _) hg (fun q hq => hoff q hq _ (by decide)), h7⟩
theorem cells_none {w : World} {ao : Option Addr} {l : List Int} {n : Nat} (h : Ints w ao l) (hn : n = l.length) (h0 : ao = none) : n = 0 := by
  refine Classical.byContradiction fun hne => ?_
  obtain ⟨b, off, h1, -⟩ := h.cells (by omega)
  rw [h0] at h1
  cases h1
theorem cells_row {w : World} {ao : Option Addr} {l : List Int} (h : Ints w ao l) (ad : Addr) (h0 : ao = some ad) : ∀ (j : Nat) (u : Value), (l.map (Value.int .i64))[j]? = some u → w.cell? (ad.add j) = some u := by
  subst h0
  exact ints_flat h
theorem ev (a : Act) (t : Nat) : a.eval (.tmp t) = a.tmps[t]?.getD undef := by
  show a.tmps.getD t undef = _
  rw [Array.getD_eq_getD_getElem?]

set_option maxRecDepth 100000 in
set_option maxHeartbeats 8000000 in
theorem refWith_any (f : Int) (F : List Int) (S : List (Int × Int)) (aoF : Option Addr) (nF cF : Nat) (aoS : Option Addr) (nS cS : Nat) (x y : Int) (w : World) (hcl : Cl w aoF nF aoS nS F S) (h9 : nF ≤ 100000) (h8 : nS ≤ 100000) :
    Calls Try.prog 53 #[.agg #[.int .i64 f, .slice aoF nF cF, .slice aoS nS cS], .agg #[.int .i64 x, .int .i64 y]] w fun e w' => (∃ (f2 : Int) (vF vS : Value) (F2 : List Int) (L : List (Int × Int)), e = .returned (.tuple #[.agg #[.int .i64 f2, vF, vS], .int .i64 (Tm.wcode f F S x y)]) ∧ Tm.WR f F S x y f2 F2 L ∧ w'.ownsRow w.heap.size 3 1 vF F2.length (F2.map (Value.int .i64)) ∧ w'.ownsRow w.heap.size 64 2 vS L.length (flat2 L)) ∧ Below w.heap.size w w' := by
  obtain ⟨i0, hi0, hz0, hz1, hz2⟩ := info_in
  obtain ⟨i1, hi1, hy0, hy1, hy2⟩ := info_rt
  obtain ⟨R, hR⟩ : ∃ c, c = Tm.wcode f F S x y := ⟨_, rfl⟩
  rw [← hR]
  have HR := Lib.hid hR
  clear hR
  have hA := below_alloc3 w (.cells #[.int .i64 f, .slice aoF nF cF, .slice aoS nS cS] 25) (.cells #[.int .i64 x, .int .i64 y] 64) (.cells #[.int .i64 0, .slice none 0 0, .slice none 0 0] 25)
  obtain ⟨rc, rs, rr⟩ := heap3 w (.cells #[.int .i64 f, .slice aoF nF cF, .slice aoS nS cS] 25) (.cells #[.int .i64 x, .int .i64 y] 64) (.cells #[.int .i64 0, .slice none 0 0, .slice none 0 0] 25)
  have hsz : (((w.alloc (.cells #[.int .i64 f, .slice aoF nF cF, .slice aoS nS cS] 25)).alloc (.cells #[.int .i64 x, .int .i64 y] 64)).alloc (.cells #[.int .i64 0, .slice none 0 0, .slice none 0 0] 25)).heap.size = w.heap.size + 3 := by simp
  go_enter Try.func53, Try.ntmps53
  go_upto_region 1 with fail
  generalize ((w.alloc (.cells #[.int .i64 f, .slice aoF nF cF, .slice aoS nS cS] 25)).alloc (.cells #[.int .i64 x, .int .i64 y] 64)).alloc (.cells #[.int .i64 0, .slice none 0 0, .slice none 0 0] 25) = W0 at hA rc rs rr hsz ⊢
  obtain ⟨G, hG⟩ : ∃ g, g = w.heap.size := ⟨_, rfl⟩
  rw [← hG] at rc rs rr hsz ⊢
  have HG := Lib.hid hG
  clear hG
  replace hcl := hcl.below hA
  have c0 := cell_of_row W0 G 0 _ _ _ rc
  have c1 := cell_of_row W0 G 1 _ _ _ rc
  have c2 := cell_of_row W0 G 2 _ _ _ rc
  have d0 := cell_of_row W0 (G + 1) 0 _ _ _ rs
  have d1 := cell_of_row W0 (G + 1) 1 _ _ _ rs
  simp at c0 c1 c2 d0 d1
  clear rc rs hsz
  obtain ⟨C, hC⟩ : ∃ c, c = Tm.vcode f F S := ⟨_, rfl⟩
  have HC := Lib.hid hC
  have hX := rValidate_any f F S aoF nF cF aoS nS cS W0 hcl h9 h8
  rw [← hC] at hX
  clear hC
  go_wp2_with fail
  refine hX.mono ?_
  clear hX
  rintro e w1 ⟨rfl, hbb⟩
  replace hcl := hcl.below hbb
  replace c0 := keep_cell hbb c0
  replace c1 := keep_cell hbb c1
  replace c2 := keep_cell hbb c2
  replace d0 := keep_cell hbb d0
  replace d1 := keep_cell hbb d1
  replace rr := heap_keep hbb rr
  replace hA := hA.trans (hbb.mono hA.size)
  clear hbb
  by_cases hz : C = 0
  · have hz3 := Lib.hid (HC.out.symm.trans hz)
    have hn4 : nS ≤ 4 := by have := (Tm.vcode_ok hz3.out).2.2; rw [hcl.ns]; exact this
    have hn12 : nF ≤ 12 := by have := (Tm.vcode_ok hz3.out).2.1; rw [hcl.nf]; exact this
    have HNS := Lib.hid hcl.ns
    have HNF := Lib.hid hcl.nf
    subst hz
    by_cases h4 : 4 ≤ nS
    · have i2 : (4 : Int) ≤ (nS : Int) := by omega
      have hr : Hid (R = 3) := Lib.hid (by rw [HR.out]; unfold Tm.wcode; rw [if_neg (by simpa using hz3.out), if_pos (by rw [← HNS.out]; omega)])
      clear h4
      have hq : Hid (Tm.WR f F S x y 0 [] []) := Lib.hid (.inl ⟨by rw [← HR.out, hr.out]; decide, rfl, rfl, rfl⟩)
      have hGw : w.heap.size ≤ G + 1 + 1 := by have := HG.out; omega
      obtain ⟨⟨s0, s1, s2⟩, t0, t1, t2⟩ := row3 rr
      go_wp2_with fail
      exact bodyPost_ret (results_cell_tmp rfl _ _ _ _ _ _ _ rfl (three_cells rr _ _ _) Try.underlying25 rfl infoCal3) rfl ⟨⟨0, _, _, [], [], by rw [hr.out]; rfl, hq.out, own_nil _ _ _ _, own_nil _ _ _ _⟩, below_setCell (below_setCell (below_setCell hA hGw _) hGw _) hGw _⟩
    · have i2 : ¬ (4 : Int) ≤ (nS : Int) := by omega
      have hr1 : Hid (R = if Tm.spans 0 [(x, y)] then (if Tm.shares x y S then 6 else 0) else 1) := Lib.hid (by rw [HR.out]; unfold Tm.wcode; rw [if_neg (by simpa using hz3.out), if_neg (by rw [← HNS.out]; omega)])
      have hsp1 : Tm.spans 0 [(x, y)] = decide (0 ≤ x ∧ x ≤ y ∧ y ≤ 10000) := by
        unfold Tm.spans Tm.spans
        simp only [Bool.and_true, Bool.decide_and]
      rw [hsp1] at hr1
      clear h4 HC hsp1
      go_wp2_with fail
      refine (isSpan_any x y w1).mono ?_
      rintro e w2 ⟨rfl, hbb⟩
      replace hcl := hcl.below hbb
      replace c0 := keep_cell hbb c0
      replace c1 := keep_cell hbb c1
      replace c2 := keep_cell hbb c2
      replace d0 := keep_cell hbb d0
      replace d1 := keep_cell hbb d1
      replace rr := heap_keep hbb rr
      replace hA := hA.trans (hbb.mono hA.size)
      clear hbb
      obtain ⟨bv, hbv⟩ : ∃ b, decide (0 ≤ x ∧ x ≤ y ∧ y ≤ 10000) = b := ⟨_, rfl⟩
      rw [hbv] at hr1 ⊢
      clear hbv
      cases bv with
      | false =>
        have hr : Hid (R = 1) := hr1
        have hq : Hid (Tm.WR f F S x y 0 [] []) := Lib.hid (.inl ⟨by rw [← HR.out, hr.out]; decide, rfl, rfl, rfl⟩)
        have hGw : w.heap.size ≤ G + 1 + 1 := by have := HG.out; omega
        obtain ⟨⟨s0, s1, s2⟩, t0, t1, t2⟩ := row3 rr
        go_wp2_with fail
        exact bodyPost_ret (results_cell_tmp rfl _ _ _ _ _ _ _ rfl (three_cells rr _ _ _) Try.underlying25 rfl infoCal3) rfl ⟨⟨0, _, _, [], [], by rw [hr.out]; rfl, hq.out, own_nil _ _ _ _, own_nil _ _ _ _⟩, below_setCell (below_setCell (below_setCell hA hGw _) hGw _) hGw _⟩
      | true =>
        have hr2 : Hid (R = if Tm.shares x y S then 6 else 0) := hr1
        clear hr1
        go_upto_region 8 with fail
        refine wp_region_grow (by kernel_rfl) (by kernel_rfl) (by kernel_rfl) 8 (by rfl) (by kernel_rfl) (fun k v W => match k with
    | 0 => v = .pointer (some ⟨G, 0, none⟩)
    | 1 => v = .int .i64 f
    | 2 => ∃ g, v = .slice (some ⟨g, 0, none⟩) 0 0 ∧ w2.heap.size ≤ g ∧ W.heap[g]? = some (.cells #[] 3 (0, 0))
    | 3 => v = .pointer (some ⟨G, 1, none⟩)
    | 4 => v = .slice aoF nF cF
    | 5 => ∃ ao cap, v = .slice ao nF cap ∧ W.ownsRow w2.heap.size 3 1 v nF (F.map (Value.int .i64))
    | 6 => ∃ ao cap, v = .agg #[.int .i64 f, .slice ao nF cap, .slice none 0 0] ∧ W.ownsRow w2.heap.size 3 1 (.slice ao nF cap) nF (F.map (Value.int .i64))
    | 7 => ∃ g, v = .pointer (some ⟨g, 0, none⟩) ∧ w2.heap.size ≤ g ∧ W.heap[g]? = some (.cells #[.int .i64 0, .slice none 0 0, .slice none 0 0] 25 (0, 0))
    | _ => True) ?mono ?step ?last
        case mono =>
          intro k v w5 w6 h hb
          match k, h with
          | 0, h => exact h
          | 1, h => exact h
          | 2, ⟨g, h1, h2, h3⟩ => exact ⟨g, h1, h2, heap_keep hb h3⟩
          | 3, h => exact h
          | 4, h => exact h
          | 5, ⟨a, c, h1, h2⟩ => exact ⟨a, c, h1, own_below h2 hb⟩
          | 6, ⟨a, c, h1, h2⟩ => exact ⟨a, c, h1, own_below h2 hb⟩
          | 7, ⟨g, h1, h2, h3⟩ => exact ⟨g, h1, h2, heap_keep hb h3⟩
          | _ + 8, _ => trivial
        case step =>
          intro k o hk ho vals a w5 hb hd hold
          have e2 : a.tmps[2]?.getD undef = .pointer (some ⟨G, 0, none⟩) := (ev a 2).symm.trans (hold 2 (not_dst (by kernel_rfl)))
          have c0' := keep_cell hb c0
          have c1' := keep_cell hb c1
          have hF' := hcl.hF.below hb
          match k, hk, ho with
          | 0, _, ho =>
            cases ho
            go_simp
            exact ⟨_, rfl, rfl, Below.refl _ _⟩
          | 1, _, ho =>
            cases ho
            obtain ⟨p0, q0⟩ := hd ⟨0, .data⟩ (by simp) rfl
            have e25 : a.tmps[25]?.getD undef = .pointer (some ⟨G, 0, none⟩) := ((ev a 25).symm.trans (q0 _ 25 rfl rfl (by simp))).trans p0
            go_simp
            exact ⟨_, rfl, rfl, Below.refl _ _⟩
          | 2, _, ho =>
            cases ho
            go_simp
            exact ⟨_, rfl, ⟨_, rfl, hb.size, heap_alloc_new _ _⟩, (Below.refl _ _).alloc (Nat.le_refl _) _⟩
          | 3, _, ho =>
            cases ho
            go_simp
            exact ⟨_, rfl, rfl, Below.refl _ _⟩
          | 4, _, ho =>
            cases ho
            obtain ⟨p0, q0⟩ := hd ⟨3, .data⟩ (by simp) rfl
            have e28 : a.tmps[28]?.getD undef = .pointer (some ⟨G, 1, none⟩) := ((ev a 28).symm.trans (q0 _ 28 rfl rfl (by simp))).trans p0
            go_simp
            exact ⟨_, rfl, rfl, Below.refl _ _⟩
          | 5, _, ho =>
            cases ho
            obtain ⟨p0, q0⟩ := hd ⟨2, .data⟩ (by simp) rfl
            obtain ⟨p1, q1⟩ := hd ⟨4, .data⟩ (by simp) rfl
            obtain ⟨g, h1, h2, h3⟩ := p0
            have e27 : a.tmps[27]?.getD undef = .slice (some ⟨g, 0, none⟩) 0 0 := ((ev a 27).symm.trans (q0 _ 27 rfl rfl (by simp))).trans h1
            have e29 : a.tmps[29]?.getD undef = .slice aoF nF cF := ((ev a 29).symm.trans (q1 _ 29 rfl rfl (by simp))).trans p1
            refine wp_copy _ _ _ 3 rfl i0 _ 1 8 rfl hi0 hz0 hz1 hz2 rfl (by decide) g w2.heap.size ((ev a 27).trans e27) h3 h2 hb.size aoF nF cF (F.map (Value.int .i64)) ((ev a 29).trans e29) (by simp; exact hcl.nf.symm) (cells_none hF' hcl.nf) (cells_row hF') (Nat.le_trans hn12 (by decide)) (by omega) ?_
            intro v' w' h4 h5
            obtain ⟨ao, cap, h6, -⟩ := own_ints (h4 : w'.ownsRow w2.heap.size 3 1 v' nF _) hcl.nf
            exact ⟨_, rfl, ⟨ao, cap, h6, h4⟩, h5⟩
          | 6, _, ho =>
            cases ho
            obtain ⟨p0, q0⟩ := hd ⟨1, .data⟩ (by simp) rfl
            obtain ⟨p1, q1⟩ := hd ⟨5, .data⟩ (by simp) rfl
            obtain ⟨ao, cap, h1, h2⟩ := p1
            have e26 : a.tmps[26]?.getD undef = .int .i64 f := ((ev a 26).symm.trans (q0 _ 26 rfl rfl (by simp))).trans p0
            have e30 : a.tmps[30]?.getD undef = .slice ao nF cap := ((ev a 30).symm.trans (q1 _ 30 rfl rfl (by simp))).trans h1
            go_simp
            exact ⟨_, rfl, ⟨_, _, rfl, by rw [← h1]; exact h2⟩, Below.refl _ _⟩
          | 7, _, ho =>
            cases ho
            go_simp
            exact ⟨_, rfl, ⟨_, rfl, hb.size, heap_alloc_new _ _⟩, (Below.refl _ _).alloc (Nat.le_refl _) _⟩
        case last =>
          intro vals w5 hΦ hb o a5 ho ha5
          cases ho
          have p6 := hΦ 6 (by omega)
          have p7 := hΦ 7 (by omega)
          obtain ⟨aoN, capN, h61, h62⟩ := p6
          obtain ⟨g, h71, h72, h73⟩ := p7
          clear hΦ
          simp only [canon, Act.put, List.getElem?_toArray, List.getElem?_cons_zero, List.getElem?_cons_succ, Option.bind_some, List.setIfInBounds_toArray, List.set_cons_zero, List.set_cons_succ, h61, h71] at ha5
          subst ha5
          simp only [List.getElem_toArray, List.getElem_cons_zero, List.getElem_cons_succ]
          obtain ⟨⟨s0, s1, s2⟩, t0, t1, t2⟩ := row3 h73
          go_simp
          have hg2 : g < w5.heap.size := heap_lt h73
          have hW6 := below_setCell (o := 2) (below_setCell (o := 1) (below_setCell (o := 0) hb h72 (.int .i64 f)) h72 (.slice aoN nF capN)) h72 (.slice none 0 0)
          have hrow := three_cells h73 (.int .i64 f) (.slice aoN nF capN) (.slice none 0 0)
          have hr1 := heap_setCell_same w5 g 0 _ _ (.int .i64 f) h73
          have hr3 := heap_setCell_same _ g 1 _ _ (.slice aoN nF capN) hr1
          have hown1 := own_set_type (o := 2) (u := .slice none 0 0) (own_set_type (o := 1) (u := .slice aoN nF capN) (own_set_type (o := 0) (u := .int .i64 f) h62 h73 (by decide)) hr1 (by decide)) hr3 (by decide)
          generalize ((w5.setCell ⟨g, 0, none⟩ (.int .i64 f)).setCell ⟨g, 1, none⟩ (.slice aoN nF capN)).setCell ⟨g, 2, none⟩ (.slice none 0 0) = W6 at hW6 hrow hown1 ⊢
          generalize vals 0 = v25, vals 1 = v26, vals 2 = v27, vals 3 = v28, vals 4 = v29, vals 5 = v30
          clear s0 s1 s2 t0 t1 t2 hr1 hr3 h73 h62 h61 h71 hg2 hb
          have Hr2 := Lib.hid hr2
          clear hr2
          go_wp2_with fail
          go_loopw [8, 9] (fun p i W => ∃ (k : Nat) (b : Bool) (L : List (Int × Int)) (aoL : Option Addr) (capL : Nat), k ≤ nS ∧ i = .int .i64 k ∧ p = .bool b ∧ Hid (L.length = k + b.toNat) ∧ Hid (Tm.ins x y S k = (L, b)) ∧ Hid (R = if Tm.shares x y (S.drop k) then 6 else 0) ∧ Hid (Below w2.heap.size w2 W) ∧ W.heap[g]? = some (.cells #[.int .i64 f, .slice aoN nF capN, .slice aoL L.length capL] 25 (0, 0)) ∧ Hid (W.ownsRow w2.heap.size 3 1 (.slice aoN nF capN) nF (F.map (Value.int .i64))) ∧ Hid (W.ownsRow w2.heap.size 64 2 (.slice aoL L.length capL) L.length (flat2 L))) (fun _ i _ => nS - (intOf i).toNat)
          case atStart => exact ⟨0, false, [], none, 0, Nat.zero_le _, rfl, rfl, Lib.hid rfl, Lib.hid rfl, Hr2.out, Lib.hid hW6, hrow, Lib.hid hown1, Lib.hid (own_nil _ _ _ _)⟩
          case round =>
            clear hrow hown1 hW6
            obtain ⟨k, b, L, aoL, capL, hk, rfl, rfl, hLk, HK, HR3, HB, hrow, HO1, HO2⟩ := hrel
            have hb := HB.out
            have C2 := keep_cell hb c2
            have D0 := keep_cell hb d0
            have D1 := keep_cell hb d1
            obtain ⟨⟨g0, g1, g2⟩, f0, f1, f2⟩ := row3 hrow
            by_cases hlt : k < nS
            · have hk1 : k < S.length := by have := HNS.out; omega
              obtain ⟨p1, o1, rfl, hp1, hc1⟩ := hcl.hS.cells (by omega)
              obtain ⟨y1, y2⟩ := hc1 k hk1
              obtain ⟨u, hu⟩ : ∃ u, u = S.getD k (0, 0) := ⟨_, rfl⟩
              rw [← hu] at y1 y2
              obtain ⟨u1, u2⟩ := u
              simp only at y1 y2
              have z1 := keep_cell hb y1
              have z2 := keep_cell hb y2
              have hst : Hid (Tm.shares x y (S.drop k) = ((decide (x ≤ u2) && decide (u1 ≤ y)) || Tm.shares x y (S.drop (k + 1)))) := Lib.hid (by
                have h5 : S[k] = (u1, u2) := by rw [hu, List.getD_eq_getElem?_getD, List.getElem?_eq_getElem hk1]; rfl
                unfold Tm.shares
                rw [List.drop_eq_getElem_cons hk1, List.any_cons, h5])
              have hins : Hid (Tm.ins x y S (k + 1) = if !b && decide (x < u1) then (L ++ [(x, y)] ++ [(u1, u2)], true) else (L ++ [(u1, u2)], b)) := Lib.hid (by
                rw [Tm.ins, HK.out, ← hu])
              clear hc1 HK hu
              have i4 : (k : Int) < (nS : Int) := by omega
              by_cases hy : u1 ≤ y
              · have i7 : decide (u1 ≤ y) = true := decide_eq_true hy
                by_cases hx : x ≤ u2
                · have i8 : decide (x ≤ u2) = true := decide_eq_true hx
                  have hr : Hid (R = 6) := Lib.hid (by rw [HR3.out, hst.out, i7, i8]; rfl)
                  clear hins hst HR3
                  have hrr := heap_keep hb rr
                  obtain ⟨⟨s0, s1, s2⟩, t0, t1, t2⟩ := row3 hrr
                  have hGw : w.heap.size ≤ G + 1 + 1 := by have := HG.out; omega
                  have hA6 := hA.trans (hb.mono hA.size)
                  have hq : Hid (Tm.WR f F S x y 0 [] []) := Lib.hid (.inl ⟨by rw [← HR.out, hr.out]; decide, rfl, rfl, rfl⟩)
                  clear hb hx hy
                  go_upto_region 13 with fail
                  go_quiet (fail)
                  go_wp2_with fail
                  refine bodyPost_ret (results_cell_tmp rfl _ _ _ _ _ _ _ rfl (three_cells hrr _ _ _) Try.underlying25 rfl infoCal3) rfl ⟨?_, below_setCell (below_setCell (below_setCell (below_drewN hA6 _) hGw _) hGw _) hGw _⟩
                  exact ⟨0, _, _, [], [], (by rw [hr.out]; rfl), hq.out, own_nil _ _ _ _, own_nil _ _ _ _⟩
                · have i8 : decide (x ≤ u2) = false := decide_eq_false hx
                  have hR4 : Hid (R = if Tm.shares x y (S.drop (k + 1)) then 6 else 0) := Lib.hid (by rw [HR3.out, hst.out, i8, Bool.false_and, Bool.false_or])
                  clear hst HR3 hx hy
                  go_upto_region 13 with fail
                  go_quiet (fail)
                  have hdn : Below wr.heap.size wr (wr.drewN nq) := below_drewN (Below.refl _ _) _
                  replace HB := Lib.hid (HB.out.trans (hdn.mono HB.out.size))
                  replace hrow := heap_keep hdn hrow
                  replace HO1 := Lib.hid (own_below HO1.out hdn)
                  replace HO2 := Lib.hid (own_below HO2.out hdn)
                  clear C2 D0 D1 g0 g1 g2 f0 f1 f2 z1 z2 hb
                  generalize wr.drewN nq = wq at HB hrow HO1 HO2 ⊢
                  clear hdn
                  have hb := HB.out
                  have C2 := keep_cell hb c2
                  have D0 := keep_cell hb d0
                  have D1 := keep_cell hb d1
                  have z1 := keep_cell hb y1
                  have z2 := keep_cell hb y2
                  obtain ⟨⟨g0, g1, g2⟩, f0, f1, f2⟩ := row3 hrow
                  go_upto_region 15 with fail
                  cases b with
                  | true =>
                    have hins2 : Hid (Tm.ins x y S (k + 1) = (L ++ [(u1, u2)], true)) := hins
                    go_quiet (fail)
                    have hdn : Below wq.heap.size wq (wq.drewN nq) := below_drewN (Below.refl _ _) _
                    replace HB := Lib.hid (HB.out.trans (hdn.mono HB.out.size))
                    replace hrow := heap_keep hdn hrow
                    replace HO1 := Lib.hid (own_below HO1.out hdn)
                    replace HO2 := Lib.hid (own_below HO2.out hdn)
                    clear C2 D0 D1 g0 g1 g2 f0 f1 f2 z1 z2 hb
                    generalize wq.drewN nq = ws at HB hrow HO1 HO2 ⊢
                    clear hdn
                    have hb := HB.out
                    have C2 := keep_cell hb c2
                    have D0 := keep_cell hb d0
                    have D1 := keep_cell hb d1
                    have z1 := keep_cell hb y1
                    have z2 := keep_cell hb y2
                    obtain ⟨⟨g0, g1, g2⟩, f0, f1, f2⟩ := row3 hrow
                    obtain ⟨aoM, haM⟩ : ∃ a, a = aoL := ⟨_, rfl⟩
                    obtain ⟨capM, hcM⟩ : ∃ a, a = capL := ⟨_, rfl⟩
                    rw [← haM, ← hcM] at hrow HO2 g2
                    clear haM hcM
                    go_upto_region 18 with fail
                    have hM1 : (L ++ [(u1, u2)]).length = (L).length + 1 := by simp
                    have hL6 : (L).length ≤ 6 := by have h6 := hLk.out; simp at h6 ⊢; omega
                    have hdw : Below ws.heap.size ws ws.drew := below_drewN (Below.refl ws.heap.size ws) 1
                    have hbd := HB.out.trans (hdw.mono HB.out.size)
                    have rowd := heap_keep hdw hrow
                    have o1d := own_below HO1.out hdw
                    have o2d := own_below HO2.out hdw
                    refine wp_region_held_drew (S := fun w' => w'.cell? ⟨G, 2, none⟩ = some (.slice (some ⟨p1, o1, none⟩) nS cS) ∧ w'.cell? ⟨p1, o1 + k * 2, none⟩ = some (.int .i64 u1) ∧ w'.cell? ⟨p1, o1 + k * 2 + 1, none⟩ = some (.int .i64 u2)) (by kernel_rfl) ⟨keep_cell hbd c2, keep_cell hbd y1, keep_cell hbd y2⟩ (fun hHeld => ?_)
                    generalize ws.drew = wd at hbd rowd o1d o2d hHeld ⊢
                    clear hdw g0 g1 g2 f0 f1 f2 C2 D0 D1 z1 z2 hb
                    obtain ⟨⟨g0, g1, g2⟩, f0, f1, f2⟩ := row3 rowd
                    refine wpAnyH_take (i := 0) (v := .pointer (some ⟨g, 2, none⟩)) rfl (by kernel_rfl) (by kernel_rfl) (by kernel_rfl) (fun _ _ _ h => h) (Or.inl ⟨by rfl, fun w hSw => ?_⟩) (by assumption) ?_
                    · obtain ⟨s0, s1, s2⟩ := hSw
                      (go_simp <;> omega)
                    try simp only [List.getElem_toArray, List.getElem_cons_zero, Act.put, List.setIfInBounds_toArray, List.set_cons_zero, List.set_cons_succ]
                    refine wpAnyH_take (i := 2) (v := .pointer (some ⟨G, 2, none⟩)) rfl (by kernel_rfl) (by kernel_rfl) (by kernel_rfl) (fun _ _ _ h => h) (Or.inl ⟨by rfl, fun w hSw => ?_⟩) (by assumption) ?_
                    · obtain ⟨s0, s1, s2⟩ := hSw
                      (go_simp <;> omega)
                    try simp only [List.getElem_toArray, List.getElem_cons_zero, List.getElem_cons_succ, Act.put, List.setIfInBounds_toArray, List.set_cons_zero, List.set_cons_succ]
                    refine wpAnyH_take (i := 3) (v := .slice (some ⟨p1, o1, none⟩) nS cS) rfl (by kernel_rfl) (by kernel_rfl) (by kernel_rfl) (fun _ _ _ h => h) (Or.inl ⟨by rfl, fun w hSw => ?_⟩) (by assumption) ?_
                    · obtain ⟨s0, s1, s2⟩ := hSw
                      (go_simp <;> omega)
                    try simp only [List.getElem_toArray, List.getElem_cons_zero, List.getElem_cons_succ, Act.put, List.setIfInBounds_toArray, List.set_cons_zero, List.set_cons_succ]
                    refine wpAnyH_take (i := 4) (v := .int .i64 k) rfl (by kernel_rfl) (by kernel_rfl) (by kernel_rfl) (fun _ _ _ h => h) (Or.inl ⟨by rfl, fun w hSw => ?_⟩) (by assumption) ?_
                    · obtain ⟨s0, s1, s2⟩ := hSw
                      (go_simp <;> omega)
                    try simp only [List.getElem_toArray, List.getElem_cons_zero, List.getElem_cons_succ, Act.put, List.setIfInBounds_toArray, List.set_cons_zero, List.set_cons_succ]
                    refine wpAnyH_take (i := 5) (v := .pointer (some ⟨p1, o1 + k * 2, none⟩)) rfl (by kernel_rfl) (by kernel_rfl) (by kernel_rfl) (fun _ _ _ h => h) (Or.inl ⟨by rfl, fun w hSw => ?_⟩) (by assumption) ?_
                    · obtain ⟨s0, s1, s2⟩ := hSw
                      (go_simp <;> omega)
                    try simp only [List.getElem_toArray, List.getElem_cons_zero, List.getElem_cons_succ, Act.put, List.setIfInBounds_toArray, List.set_cons_zero, List.set_cons_succ]
                    refine wpAnyH_take (i := 6) (v := .agg #[.int .i64 u1, .int .i64 u2]) rfl (by kernel_rfl) (by kernel_rfl) (by kernel_rfl) (fun _ _ _ h => h) (Or.inl ⟨by rfl, fun w hSw => ?_⟩) (by assumption) ?_
                    · obtain ⟨s0, s1, s2⟩ := hSw
                      (go_simp <;> omega)
                    try simp only [List.getElem_toArray, List.getElem_cons_zero, List.getElem_cons_succ, Act.put, List.setIfInBounds_toArray, List.set_cons_zero, List.set_cons_succ]
                    have hal := (Below.refl wd.heap.size wd).alloc (Nat.le_refl _) (.cells #[.int .i64 u1, .int .i64 u2] 64)
                    have hba := hbd.alloc hbd.size (.cells #[.int .i64 u1, .int .i64 u2] 64)
                    have hnew := heap_alloc_new wd (.cells #[.int .i64 u1, .int .i64 u2] 64)
                    have rowa := heap_keep hal rowd
                    have o1a := o1d.alloc (.cells #[.int .i64 u1, .int .i64 u2] 64)
                    have o2a := o2d.alloc (.cells #[.int .i64 u1, .int .i64 u2] 64)
                    have hcb := hba.size
                    refine wpAnyH_ready (rs := [1, 7]) (by kernel_rfl) (by simp) ?_
                    refine AllReadyH.cons rfl (fun K hK => ?_) (AllReadyH.cons rfl (fun K hK => ?_) AllReadyH.nil)
                    · go_simp
                      (try dsimp only)
                      refine hK.out _ _ ⟨keep_cell hbd c2, keep_cell hbd y1, keep_cell hbd y2⟩ (fun hHeld => ?_)
                      clear hK K
                      try simp only [List.getElem_toArray, List.getElem_cons_zero, List.getElem_cons_succ, Act.put, List.setIfInBounds_toArray, List.set_cons_zero, List.set_cons_succ]
                      refine wpAnyH_ready (rs := [7]) (by kernel_rfl) (by simp) ?_
                      refine AllReadyH.cons rfl (fun K hK => ?_) AllReadyH.nil
                      go_simp
                      generalize wd.alloc (.cells #[.int .i64 u1, .int .i64 u2] 64) = wa at hal hba hnew rowa o1a o2a hcb ⊢
                      (try dsimp only)
                      refine hK.out _ _ ⟨keep_cell hba c2, keep_cell hba y1, keep_cell hba y2⟩ (fun hHeld => ?_)
                      clear hK K
                      try simp only [List.getElem_toArray, List.getElem_cons_zero, List.getElem_cons_succ, Act.put, List.setIfInBounds_toArray, List.set_cons_zero, List.set_cons_succ]
                      refine wpAnyH_ready (rs := [8]) (by kernel_rfl) (by simp) ?_
                      refine AllReadyH.cons rfl (fun K hK => ?_) AllReadyH.nil
                      refine step_append_lies _ (by rfl) _ _ _ (by rfl) w2.heap.size 64 i1 _ 2 16 Try.underlying23 hi1 hy0 hy1 hy2 rfl (by omega) _ (L).length _ (by rfl) o2a ⟨wd.heap.size, 0, none⟩ 1 1 [.int .i64 u1, .int .i64 u2] (by rfl) (by rfl) (World.news_of_block (cs := #[.int .i64 u1, .int .i64 u2]) (t := 64) (fr := (0, 0)) hnew) (by simp [Value.oneCell']) (by omega) (by unfold maxLen; omega) (by omega) hcb (wa.heap.size) rfl ?_
                      intro gg cap5 w6 hown6 hgrow hat hlt6
                      have hb6 := hba.grown hgrow hba.size (fun q hq => (o2a.lt _ hq).1)
                      have hoff : ∀ q, Value.ownBlock (.slice aoM (L).length capM) = some q → ∀ (t : TypeId), t ≠ 64 → ∀ cs fr, wa.heap[q]? ≠ some (.cells cs t fr) := fun q hq t ht cs fr h => by
                        obtain ⟨c, h2⟩ := own_row o2a q hq
                        rw [h] at h2
                        simp only [Option.some.injEq, Obj.cells.injEq] at h2
                        exact ht h2.2.1
                      have row6 := heap_grown rowa hgrow (fun q hq => hoff q hq _ (by decide))
                      have o16 := own_grown o1a hgrow (fun q hq => hoff q hq _ (by decide))
                      have o26 : w6.ownsRow w2.heap.size 64 2 (.slice (some ⟨gg, 0, none⟩) ((L).length + 1) cap5) ((L).length + 1) (flat2 (L ++ [(u1, u2)])) := by rw [flat2_app]; exact hown6
                      clear hown6 hgrow hat hoff rowa o1a o2a hnew
                      (try dsimp only)
                      refine hK.out _ _ ⟨keep_cell hb6 c2, keep_cell hb6 y1, keep_cell hb6 y2⟩ (fun hHeld => ?_)
                      clear hK K
                      try simp only [List.getElem_toArray, List.getElem_cons_zero, List.getElem_cons_succ, Act.put, List.setIfInBounds_toArray, List.set_cons_zero, List.set_cons_succ]
                      refine wpAnyH_take (i := 9) (v := .pointer (some ⟨g, 2, none⟩)) rfl (by kernel_rfl) (by kernel_rfl) (by kernel_rfl) (fun _ _ _ h => h) (Or.inl ⟨by rfl, fun w hSw => ?_⟩) (by assumption) ?_
                      · obtain ⟨s0, s1, s2⟩ := hSw
                        (go_simp <;> omega)
                      try simp only [List.getElem_toArray, List.getElem_cons_zero, List.getElem_cons_succ, Act.put, List.setIfInBounds_toArray, List.set_cons_zero, List.set_cons_succ]
                      clear g0 g1 g2 f0 f1 f2
                      obtain ⟨⟨g0, g1, g2⟩, f0, f1, f2⟩ := row3 row6
                      refine wpAnyH_ready (rs := [10]) (by kernel_rfl) (by simp) ?_
                      refine AllReadyH.cons rfl (fun K hK => ?_) AllReadyH.nil
                      go_simp
                      have hb7 := below_setCell (o := 2) hb6 h72 (.slice (some ⟨gg, 0, none⟩) ((L).length + 1) cap5)
                      have row7 := heap_setCell_same w6 g 2 _ _ (.slice (some ⟨gg, 0, none⟩) ((L).length + 1) cap5) row6
                      have o17 := own_set_type (o := 2) (u := .slice (some ⟨gg, 0, none⟩) ((L).length + 1) cap5) o16 row6 (by decide)
                      have o27 := own_set_type (o := 2) (u := .slice (some ⟨gg, 0, none⟩) ((L).length + 1) cap5) o26 row6 (by decide)
                      simp at row7
                      generalize w6.setCell ⟨g, 2, none⟩ (.slice (some ⟨gg, 0, none⟩) ((L).length + 1) cap5) = w7 at hb7 row7 o17 o27 ⊢
                      (try dsimp only)
                      refine hK.out _ _ ⟨keep_cell hb7 c2, keep_cell hb7 y1, keep_cell hb7 y2⟩ (fun hHeld => ?_)
                      clear hK K
                      try simp only [List.getElem_toArray, List.getElem_cons_zero, List.getElem_cons_succ, Act.put, List.setIfInBounds_toArray, List.set_cons_zero, List.set_cons_succ]
                      refine wpAnyH_done (by kernel_rfl) ?_ _
                      clear g0 g1 g2 f0 f1 f2
                      go_wp2_with fail
                      go_roundw
                      case rel => exact ⟨k + 1, true, L ++ [(u1, u2)], some ⟨gg, 0, none⟩, cap5, by omega, by go_num, rfl, Lib.hid (by have h6 := hLk.out; simp at h6 ⊢; omega), hins2, hR4, Lib.hid hb7, by rw [hM1]; exact row7, Lib.hid o17, Lib.hid (by rw [hM1]; exact o27)⟩
                      case measure => simp [intOf]; omega
                    · go_simp
                      generalize wd.alloc (.cells #[.int .i64 u1, .int .i64 u2] 64) = wa at hal hba hnew rowa o1a o2a hcb ⊢
                      (try dsimp only)
                      refine hK.out _ _ ⟨keep_cell hba c2, keep_cell hba y1, keep_cell hba y2⟩ (fun hHeld => ?_)
                      clear hK K
                      try simp only [List.getElem_toArray, List.getElem_cons_zero, List.getElem_cons_succ, Act.put, List.setIfInBounds_toArray, List.set_cons_zero, List.set_cons_succ]
                      clear g0 g1 g2 f0 f1 f2
                      obtain ⟨⟨g0, g1, g2⟩, f0, f1, f2⟩ := row3 rowa
                      refine wpAnyH_ready (rs := [1]) (by kernel_rfl) (by simp) ?_
                      refine AllReadyH.cons rfl (fun K hK => ?_) AllReadyH.nil
                      go_simp
                      (try dsimp only)
                      refine hK.out _ _ ⟨keep_cell hba c2, keep_cell hba y1, keep_cell hba y2⟩ (fun hHeld => ?_)
                      clear hK K
                      try simp only [List.getElem_toArray, List.getElem_cons_zero, List.getElem_cons_succ, Act.put, List.setIfInBounds_toArray, List.set_cons_zero, List.set_cons_succ]
                      refine wpAnyH_ready (rs := [8]) (by kernel_rfl) (by simp) ?_
                      refine AllReadyH.cons rfl (fun K hK => ?_) AllReadyH.nil
                      refine step_append_lies _ (by rfl) _ _ _ (by rfl) w2.heap.size 64 i1 _ 2 16 Try.underlying23 hi1 hy0 hy1 hy2 rfl (by omega) _ (L).length _ (by rfl) o2a ⟨wd.heap.size, 0, none⟩ 1 1 [.int .i64 u1, .int .i64 u2] (by rfl) (by rfl) (World.news_of_block (cs := #[.int .i64 u1, .int .i64 u2]) (t := 64) (fr := (0, 0)) hnew) (by simp [Value.oneCell']) (by omega) (by unfold maxLen; omega) (by omega) hcb (wa.heap.size) rfl ?_
                      intro gg cap5 w6 hown6 hgrow hat hlt6
                      have hb6 := hba.grown hgrow hba.size (fun q hq => (o2a.lt _ hq).1)
                      have hoff : ∀ q, Value.ownBlock (.slice aoM (L).length capM) = some q → ∀ (t : TypeId), t ≠ 64 → ∀ cs fr, wa.heap[q]? ≠ some (.cells cs t fr) := fun q hq t ht cs fr h => by
                        obtain ⟨c, h2⟩ := own_row o2a q hq
                        rw [h] at h2
                        simp only [Option.some.injEq, Obj.cells.injEq] at h2
                        exact ht h2.2.1
                      have row6 := heap_grown rowa hgrow (fun q hq => hoff q hq _ (by decide))
                      have o16 := own_grown o1a hgrow (fun q hq => hoff q hq _ (by decide))
                      have o26 : w6.ownsRow w2.heap.size 64 2 (.slice (some ⟨gg, 0, none⟩) ((L).length + 1) cap5) ((L).length + 1) (flat2 (L ++ [(u1, u2)])) := by rw [flat2_app]; exact hown6
                      clear hown6 hgrow hat hoff rowa o1a o2a hnew
                      (try dsimp only)
                      refine hK.out _ _ ⟨keep_cell hb6 c2, keep_cell hb6 y1, keep_cell hb6 y2⟩ (fun hHeld => ?_)
                      clear hK K
                      try simp only [List.getElem_toArray, List.getElem_cons_zero, List.getElem_cons_succ, Act.put, List.setIfInBounds_toArray, List.set_cons_zero, List.set_cons_succ]
                      refine wpAnyH_take (i := 9) (v := .pointer (some ⟨g, 2, none⟩)) rfl (by kernel_rfl) (by kernel_rfl) (by kernel_rfl) (fun _ _ _ h => h) (Or.inl ⟨by rfl, fun w hSw => ?_⟩) (by assumption) ?_
                      · obtain ⟨s0, s1, s2⟩ := hSw
                        (go_simp <;> omega)
                      try simp only [List.getElem_toArray, List.getElem_cons_zero, List.getElem_cons_succ, Act.put, List.setIfInBounds_toArray, List.set_cons_zero, List.set_cons_succ]
                      clear g0 g1 g2 f0 f1 f2
                      obtain ⟨⟨g0, g1, g2⟩, f0, f1, f2⟩ := row3 row6
                      refine wpAnyH_ready (rs := [10]) (by kernel_rfl) (by simp) ?_
                      refine AllReadyH.cons rfl (fun K hK => ?_) AllReadyH.nil
                      go_simp
                      have hb7 := below_setCell (o := 2) hb6 h72 (.slice (some ⟨gg, 0, none⟩) ((L).length + 1) cap5)
                      have row7 := heap_setCell_same w6 g 2 _ _ (.slice (some ⟨gg, 0, none⟩) ((L).length + 1) cap5) row6
                      have o17 := own_set_type (o := 2) (u := .slice (some ⟨gg, 0, none⟩) ((L).length + 1) cap5) o16 row6 (by decide)
                      have o27 := own_set_type (o := 2) (u := .slice (some ⟨gg, 0, none⟩) ((L).length + 1) cap5) o26 row6 (by decide)
                      simp at row7
                      generalize w6.setCell ⟨g, 2, none⟩ (.slice (some ⟨gg, 0, none⟩) ((L).length + 1) cap5) = w7 at hb7 row7 o17 o27 ⊢
                      (try dsimp only)
                      refine hK.out _ _ ⟨keep_cell hb7 c2, keep_cell hb7 y1, keep_cell hb7 y2⟩ (fun hHeld => ?_)
                      clear hK K
                      try simp only [List.getElem_toArray, List.getElem_cons_zero, List.getElem_cons_succ, Act.put, List.setIfInBounds_toArray, List.set_cons_zero, List.set_cons_succ]
                      refine wpAnyH_done (by kernel_rfl) ?_ _
                      clear g0 g1 g2 f0 f1 f2
                      go_wp2_with fail
                      go_roundw
                      case rel => exact ⟨k + 1, true, L ++ [(u1, u2)], some ⟨gg, 0, none⟩, cap5, by omega, by go_num, rfl, Lib.hid (by have h6 := hLk.out; simp at h6 ⊢; omega), hins2, hR4, Lib.hid hb7, by rw [hM1]; exact row7, Lib.hid o17, Lib.hid (by rw [hM1]; exact o27)⟩
                      case measure => simp [intOf]; omega
                  | false =>
                    by_cases hxu : x < u1
                    · have i9 : decide (x < u1) = true := decide_eq_true hxu
                      have hins2 : Hid (Tm.ins x y S (k + 1) = (L ++ [(x, y)] ++ [(u1, u2)], true)) := Lib.hid (by rw [hins.out, i9]; rfl)
                      clear hins hxu
                      go_quiet (fail)
                      have hdn : Below wq.heap.size wq (wq.drewN nq) := below_drewN (Below.refl _ _) _
                      replace HB := Lib.hid (HB.out.trans (hdn.mono HB.out.size))
                      replace hrow := heap_keep hdn hrow
                      replace HO1 := Lib.hid (own_below HO1.out hdn)
                      replace HO2 := Lib.hid (own_below HO2.out hdn)
                      clear C2 D0 D1 g0 g1 g2 f0 f1 f2 z1 z2 hb
                      generalize wq.drewN nq = ws at HB hrow HO1 HO2 ⊢
                      clear hdn
                      have hb := HB.out
                      have C2 := keep_cell hb c2
                      have D0 := keep_cell hb d0
                      have D1 := keep_cell hb d1
                      have z1 := keep_cell hb y1
                      have z2 := keep_cell hb y2
                      obtain ⟨⟨g0, g1, g2⟩, f0, f1, f2⟩ := row3 hrow
                      have hL6 : L.length ≤ 5 := by have h6 := hLk.out; simp at h6; omega
                      have hcs := HB.out.size
                      go_upto_region 18 with (first | (at_builtin; refine wpList_append_own _ rfl _ _ 23 rfl w2.heap.size 64 i1 (.agg #[.int .i64 0, .int .i64 0]) 2 16 Try.underlying23 hi1 hy0 hy1 hy2 rfl (by decide) _ L.length _ rfl (HO2.out.alloc _) ⟨ws.heap.size, 0, none⟩ 1 1 [.int .i64 x, .int .i64 y] rfl rfl (World.news_of_block (cs := #[.int .i64 x, .int .i64 y]) (t := 64) (fr := (0, 0)) (heap_alloc_new ws _)) (by simp [Value.oneCell']) (by unfold maxLen; omega) (by omega) (by simp; omega) ?_; intro v6 w6 hown6 hgrow6 hnil6; obtain ⟨aoM, capM, rfl, hb6, row6, o16, o26⟩ := appended hi1 HB.out hrow HO1.out HO2.out hown6 hgrow6; clear hown6 hgrow6 hnil6; have r6 := row3 row6; obtain ⟨⟨n0, n1, n2⟩, m0, m1, m2⟩ := r6))
                      have hb7 := below_setCell (o := 2) hb6 h72 (.slice aoM (L.length + 1) capM)
                      have row7 := heap_setCell_same w6 g 2 _ _ (.slice aoM (L.length + 1) capM) row6
                      have o17 := own_set_type (o := 2) (u := .slice aoM (L.length + 1) capM) o16 row6 (by decide)
                      have o27 := own_set_type (o := 2) (u := .slice aoM (L.length + 1) capM) o26 row6 (by decide)
                      simp at row7
                      clear n0 n1 n2 m0 m1 m2 hb6 row6 o16 o26 hcs
                      generalize w6.setCell ⟨g, 2, none⟩ (.slice aoM (L.length + 1) capM) = wv at hb7 row7 o17 o27 ⊢
                      obtain ⟨M, hM⟩ : ∃ M, M = L ++ [(x, y)] := ⟨_, rfl⟩
                      have hM2 : L.length + 1 = M.length := by rw [hM]; simp
                      rw [← hM] at o27 hins2
                      rw [hM2] at row7 o27
                      replace hLk : Hid (M.length = k + true.toNat) := Lib.hid (by have h6 := hLk.out; rw [← hM2]; simp at h6 ⊢; omega)
                      clear hM hM2 hL6 hrow HO1 HO2 HB C2 D0 D1 g0 g1 g2 f0 f1 f2 z1 z2 hb
                      have HB := Lib.hid hb7
                      have hrow := row7
                      have HO1 := Lib.hid o17
                      have HO2 := Lib.hid o27
                      clear hb7 row7 o17 o27
                      have hb := HB.out
                      have C2 := keep_cell hb c2
                      have D0 := keep_cell hb d0
                      have D1 := keep_cell hb d1
                      have z1 := keep_cell hb y1
                      have z2 := keep_cell hb y2
                      obtain ⟨⟨g0, g1, g2⟩, f0, f1, f2⟩ := row3 hrow
                      go_upto_region 18 with fail
                      have hM1 : (M ++ [(u1, u2)]).length = (M).length + 1 := by simp
                      have hL6 : (M).length ≤ 6 := by have h6 := hLk.out; simp at h6 ⊢; omega
                      have hdw : Below wv.heap.size wv wv.drew := below_drewN (Below.refl wv.heap.size wv) 1
                      have hbd := HB.out.trans (hdw.mono HB.out.size)
                      have rowd := heap_keep hdw hrow
                      have o1d := own_below HO1.out hdw
                      have o2d := own_below HO2.out hdw
                      refine wp_region_held_drew (S := fun w' => w'.cell? ⟨G, 2, none⟩ = some (.slice (some ⟨p1, o1, none⟩) nS cS) ∧ w'.cell? ⟨p1, o1 + k * 2, none⟩ = some (.int .i64 u1) ∧ w'.cell? ⟨p1, o1 + k * 2 + 1, none⟩ = some (.int .i64 u2)) (by kernel_rfl) ⟨keep_cell hbd c2, keep_cell hbd y1, keep_cell hbd y2⟩ (fun hHeld => ?_)
                      generalize wv.drew = wd at hbd rowd o1d o2d hHeld ⊢
                      clear hdw g0 g1 g2 f0 f1 f2 C2 D0 D1 z1 z2 hb
                      obtain ⟨⟨g0, g1, g2⟩, f0, f1, f2⟩ := row3 rowd
                      refine wpAnyH_take (i := 0) (v := .pointer (some ⟨g, 2, none⟩)) rfl (by kernel_rfl) (by kernel_rfl) (by kernel_rfl) (fun _ _ _ h => h) (Or.inl ⟨by rfl, fun w hSw => ?_⟩) (by assumption) ?_
                      · obtain ⟨s0, s1, s2⟩ := hSw
                        (go_simp <;> omega)
                      try simp only [List.getElem_toArray, List.getElem_cons_zero, Act.put, List.setIfInBounds_toArray, List.set_cons_zero, List.set_cons_succ]
                      refine wpAnyH_take (i := 2) (v := .pointer (some ⟨G, 2, none⟩)) rfl (by kernel_rfl) (by kernel_rfl) (by kernel_rfl) (fun _ _ _ h => h) (Or.inl ⟨by rfl, fun w hSw => ?_⟩) (by assumption) ?_
                      · obtain ⟨s0, s1, s2⟩ := hSw
                        (go_simp <;> omega)
                      try simp only [List.getElem_toArray, List.getElem_cons_zero, List.getElem_cons_succ, Act.put, List.setIfInBounds_toArray, List.set_cons_zero, List.set_cons_succ]
                      refine wpAnyH_take (i := 3) (v := .slice (some ⟨p1, o1, none⟩) nS cS) rfl (by kernel_rfl) (by kernel_rfl) (by kernel_rfl) (fun _ _ _ h => h) (Or.inl ⟨by rfl, fun w hSw => ?_⟩) (by assumption) ?_
                      · obtain ⟨s0, s1, s2⟩ := hSw
                        (go_simp <;> omega)
                      try simp only [List.getElem_toArray, List.getElem_cons_zero, List.getElem_cons_succ, Act.put, List.setIfInBounds_toArray, List.set_cons_zero, List.set_cons_succ]
                      refine wpAnyH_take (i := 4) (v := .int .i64 k) rfl (by kernel_rfl) (by kernel_rfl) (by kernel_rfl) (fun _ _ _ h => h) (Or.inl ⟨by rfl, fun w hSw => ?_⟩) (by assumption) ?_
                      · obtain ⟨s0, s1, s2⟩ := hSw
                        (go_simp <;> omega)
                      try simp only [List.getElem_toArray, List.getElem_cons_zero, List.getElem_cons_succ, Act.put, List.setIfInBounds_toArray, List.set_cons_zero, List.set_cons_succ]
                      refine wpAnyH_take (i := 5) (v := .pointer (some ⟨p1, o1 + k * 2, none⟩)) rfl (by kernel_rfl) (by kernel_rfl) (by kernel_rfl) (fun _ _ _ h => h) (Or.inl ⟨by rfl, fun w hSw => ?_⟩) (by assumption) ?_
                      · obtain ⟨s0, s1, s2⟩ := hSw
                        (go_simp <;> omega)
                      try simp only [List.getElem_toArray, List.getElem_cons_zero, List.getElem_cons_succ, Act.put, List.setIfInBounds_toArray, List.set_cons_zero, List.set_cons_succ]
                      refine wpAnyH_take (i := 6) (v := .agg #[.int .i64 u1, .int .i64 u2]) rfl (by kernel_rfl) (by kernel_rfl) (by kernel_rfl) (fun _ _ _ h => h) (Or.inl ⟨by rfl, fun w hSw => ?_⟩) (by assumption) ?_
                      · obtain ⟨s0, s1, s2⟩ := hSw
                        (go_simp <;> omega)
                      try simp only [List.getElem_toArray, List.getElem_cons_zero, List.getElem_cons_succ, Act.put, List.setIfInBounds_toArray, List.set_cons_zero, List.set_cons_succ]
                      have hal := (Below.refl wd.heap.size wd).alloc (Nat.le_refl _) (.cells #[.int .i64 u1, .int .i64 u2] 64)
                      have hba := hbd.alloc hbd.size (.cells #[.int .i64 u1, .int .i64 u2] 64)
                      have hnew := heap_alloc_new wd (.cells #[.int .i64 u1, .int .i64 u2] 64)
                      have rowa := heap_keep hal rowd
                      have o1a := o1d.alloc (.cells #[.int .i64 u1, .int .i64 u2] 64)
                      have o2a := o2d.alloc (.cells #[.int .i64 u1, .int .i64 u2] 64)
                      have hcb := hba.size
                      refine wpAnyH_ready (rs := [1, 7]) (by kernel_rfl) (by simp) ?_
                      refine AllReadyH.cons rfl (fun K hK => ?_) (AllReadyH.cons rfl (fun K hK => ?_) AllReadyH.nil)
                      · go_simp
                        (try dsimp only)
                        refine hK.out _ _ ⟨keep_cell hbd c2, keep_cell hbd y1, keep_cell hbd y2⟩ (fun hHeld => ?_)
                        clear hK K
                        try simp only [List.getElem_toArray, List.getElem_cons_zero, List.getElem_cons_succ, Act.put, List.setIfInBounds_toArray, List.set_cons_zero, List.set_cons_succ]
                        refine wpAnyH_ready (rs := [7]) (by kernel_rfl) (by simp) ?_
                        refine AllReadyH.cons rfl (fun K hK => ?_) AllReadyH.nil
                        go_simp
                        generalize wd.alloc (.cells #[.int .i64 u1, .int .i64 u2] 64) = wa at hal hba hnew rowa o1a o2a hcb ⊢
                        (try dsimp only)
                        refine hK.out _ _ ⟨keep_cell hba c2, keep_cell hba y1, keep_cell hba y2⟩ (fun hHeld => ?_)
                        clear hK K
                        try simp only [List.getElem_toArray, List.getElem_cons_zero, List.getElem_cons_succ, Act.put, List.setIfInBounds_toArray, List.set_cons_zero, List.set_cons_succ]
                        refine wpAnyH_ready (rs := [8]) (by kernel_rfl) (by simp) ?_
                        refine AllReadyH.cons rfl (fun K hK => ?_) AllReadyH.nil
                        refine step_append_lies _ (by rfl) _ _ _ (by rfl) w2.heap.size 64 i1 _ 2 16 Try.underlying23 hi1 hy0 hy1 hy2 rfl (by omega) _ (M).length _ (by rfl) o2a ⟨wd.heap.size, 0, none⟩ 1 1 [.int .i64 u1, .int .i64 u2] (by rfl) (by rfl) (World.news_of_block (cs := #[.int .i64 u1, .int .i64 u2]) (t := 64) (fr := (0, 0)) hnew) (by simp [Value.oneCell']) (by omega) (by unfold maxLen; omega) (by omega) hcb (wa.heap.size) rfl ?_
                        intro gg cap5 w6 hown6 hgrow hat hlt6
                        have hb6 := hba.grown hgrow hba.size (fun q hq => (o2a.lt _ hq).1)
                        have hoff : ∀ q, Value.ownBlock (.slice aoM (M).length capM) = some q → ∀ (t : TypeId), t ≠ 64 → ∀ cs fr, wa.heap[q]? ≠ some (.cells cs t fr) := fun q hq t ht cs fr h => by
                          obtain ⟨c, h2⟩ := own_row o2a q hq
                          rw [h] at h2
                          simp only [Option.some.injEq, Obj.cells.injEq] at h2
                          exact ht h2.2.1
                        have row6 := heap_grown rowa hgrow (fun q hq => hoff q hq _ (by decide))
                        have o16 := own_grown o1a hgrow (fun q hq => hoff q hq _ (by decide))
                        have o26 : w6.ownsRow w2.heap.size 64 2 (.slice (some ⟨gg, 0, none⟩) ((M).length + 1) cap5) ((M).length + 1) (flat2 (M ++ [(u1, u2)])) := by rw [flat2_app]; exact hown6
                        clear hown6 hgrow hat hoff rowa o1a o2a hnew
                        (try dsimp only)
                        refine hK.out _ _ ⟨keep_cell hb6 c2, keep_cell hb6 y1, keep_cell hb6 y2⟩ (fun hHeld => ?_)
                        clear hK K
                        try simp only [List.getElem_toArray, List.getElem_cons_zero, List.getElem_cons_succ, Act.put, List.setIfInBounds_toArray, List.set_cons_zero, List.set_cons_succ]
                        refine wpAnyH_take (i := 9) (v := .pointer (some ⟨g, 2, none⟩)) rfl (by kernel_rfl) (by kernel_rfl) (by kernel_rfl) (fun _ _ _ h => h) (Or.inl ⟨by rfl, fun w hSw => ?_⟩) (by assumption) ?_
                        · obtain ⟨s0, s1, s2⟩ := hSw
                          (go_simp <;> omega)
                        try simp only [List.getElem_toArray, List.getElem_cons_zero, List.getElem_cons_succ, Act.put, List.setIfInBounds_toArray, List.set_cons_zero, List.set_cons_succ]
                        clear g0 g1 g2 f0 f1 f2
                        obtain ⟨⟨g0, g1, g2⟩, f0, f1, f2⟩ := row3 row6
                        refine wpAnyH_ready (rs := [10]) (by kernel_rfl) (by simp) ?_
                        refine AllReadyH.cons rfl (fun K hK => ?_) AllReadyH.nil
                        go_simp
                        have hb7 := below_setCell (o := 2) hb6 h72 (.slice (some ⟨gg, 0, none⟩) ((M).length + 1) cap5)
                        have row7 := heap_setCell_same w6 g 2 _ _ (.slice (some ⟨gg, 0, none⟩) ((M).length + 1) cap5) row6
                        have o17 := own_set_type (o := 2) (u := .slice (some ⟨gg, 0, none⟩) ((M).length + 1) cap5) o16 row6 (by decide)
                        have o27 := own_set_type (o := 2) (u := .slice (some ⟨gg, 0, none⟩) ((M).length + 1) cap5) o26 row6 (by decide)
                        simp at row7
                        generalize w6.setCell ⟨g, 2, none⟩ (.slice (some ⟨gg, 0, none⟩) ((M).length + 1) cap5) = w7 at hb7 row7 o17 o27 ⊢
                        (try dsimp only)
                        refine hK.out _ _ ⟨keep_cell hb7 c2, keep_cell hb7 y1, keep_cell hb7 y2⟩ (fun hHeld => ?_)
                        clear hK K
                        try simp only [List.getElem_toArray, List.getElem_cons_zero, List.getElem_cons_succ, Act.put, List.setIfInBounds_toArray, List.set_cons_zero, List.set_cons_succ]
                        refine wpAnyH_done (by kernel_rfl) ?_ _
                        clear g0 g1 g2 f0 f1 f2
                        go_wp2_with fail
                        go_roundw
                        case rel => exact ⟨k + 1, true, M ++ [(u1, u2)], some ⟨gg, 0, none⟩, cap5, by omega, by go_num, rfl, Lib.hid (by have h6 := hLk.out; simp at h6 ⊢; omega), hins2, hR4, Lib.hid hb7, by rw [hM1]; exact row7, Lib.hid o17, Lib.hid (by rw [hM1]; exact o27)⟩
                        case measure => simp [intOf]; omega
                      · go_simp
                        generalize wd.alloc (.cells #[.int .i64 u1, .int .i64 u2] 64) = wa at hal hba hnew rowa o1a o2a hcb ⊢
                        (try dsimp only)
                        refine hK.out _ _ ⟨keep_cell hba c2, keep_cell hba y1, keep_cell hba y2⟩ (fun hHeld => ?_)
                        clear hK K
                        try simp only [List.getElem_toArray, List.getElem_cons_zero, List.getElem_cons_succ, Act.put, List.setIfInBounds_toArray, List.set_cons_zero, List.set_cons_succ]
                        clear g0 g1 g2 f0 f1 f2
                        obtain ⟨⟨g0, g1, g2⟩, f0, f1, f2⟩ := row3 rowa
                        refine wpAnyH_ready (rs := [1]) (by kernel_rfl) (by simp) ?_
                        refine AllReadyH.cons rfl (fun K hK => ?_) AllReadyH.nil
                        go_simp
                        (try dsimp only)
                        refine hK.out _ _ ⟨keep_cell hba c2, keep_cell hba y1, keep_cell hba y2⟩ (fun hHeld => ?_)
                        clear hK K
                        try simp only [List.getElem_toArray, List.getElem_cons_zero, List.getElem_cons_succ, Act.put, List.setIfInBounds_toArray, List.set_cons_zero, List.set_cons_succ]
                        refine wpAnyH_ready (rs := [8]) (by kernel_rfl) (by simp) ?_
                        refine AllReadyH.cons rfl (fun K hK => ?_) AllReadyH.nil
                        refine step_append_lies _ (by rfl) _ _ _ (by rfl) w2.heap.size 64 i1 _ 2 16 Try.underlying23 hi1 hy0 hy1 hy2 rfl (by omega) _ (M).length _ (by rfl) o2a ⟨wd.heap.size, 0, none⟩ 1 1 [.int .i64 u1, .int .i64 u2] (by rfl) (by rfl) (World.news_of_block (cs := #[.int .i64 u1, .int .i64 u2]) (t := 64) (fr := (0, 0)) hnew) (by simp [Value.oneCell']) (by omega) (by unfold maxLen; omega) (by omega) hcb (wa.heap.size) rfl ?_
                        intro gg cap5 w6 hown6 hgrow hat hlt6
                        have hb6 := hba.grown hgrow hba.size (fun q hq => (o2a.lt _ hq).1)
                        have hoff : ∀ q, Value.ownBlock (.slice aoM (M).length capM) = some q → ∀ (t : TypeId), t ≠ 64 → ∀ cs fr, wa.heap[q]? ≠ some (.cells cs t fr) := fun q hq t ht cs fr h => by
                          obtain ⟨c, h2⟩ := own_row o2a q hq
                          rw [h] at h2
                          simp only [Option.some.injEq, Obj.cells.injEq] at h2
                          exact ht h2.2.1
                        have row6 := heap_grown rowa hgrow (fun q hq => hoff q hq _ (by decide))
                        have o16 := own_grown o1a hgrow (fun q hq => hoff q hq _ (by decide))
                        have o26 : w6.ownsRow w2.heap.size 64 2 (.slice (some ⟨gg, 0, none⟩) ((M).length + 1) cap5) ((M).length + 1) (flat2 (M ++ [(u1, u2)])) := by rw [flat2_app]; exact hown6
                        clear hown6 hgrow hat hoff rowa o1a o2a hnew
                        (try dsimp only)
                        refine hK.out _ _ ⟨keep_cell hb6 c2, keep_cell hb6 y1, keep_cell hb6 y2⟩ (fun hHeld => ?_)
                        clear hK K
                        try simp only [List.getElem_toArray, List.getElem_cons_zero, List.getElem_cons_succ, Act.put, List.setIfInBounds_toArray, List.set_cons_zero, List.set_cons_succ]
                        refine wpAnyH_take (i := 9) (v := .pointer (some ⟨g, 2, none⟩)) rfl (by kernel_rfl) (by kernel_rfl) (by kernel_rfl) (fun _ _ _ h => h) (Or.inl ⟨by rfl, fun w hSw => ?_⟩) (by assumption) ?_
                        · obtain ⟨s0, s1, s2⟩ := hSw
                          (go_simp <;> omega)
                        try simp only [List.getElem_toArray, List.getElem_cons_zero, List.getElem_cons_succ, Act.put, List.setIfInBounds_toArray, List.set_cons_zero, List.set_cons_succ]
                        clear g0 g1 g2 f0 f1 f2
                        obtain ⟨⟨g0, g1, g2⟩, f0, f1, f2⟩ := row3 row6
                        refine wpAnyH_ready (rs := [10]) (by kernel_rfl) (by simp) ?_
                        refine AllReadyH.cons rfl (fun K hK => ?_) AllReadyH.nil
                        go_simp
                        have hb7 := below_setCell (o := 2) hb6 h72 (.slice (some ⟨gg, 0, none⟩) ((M).length + 1) cap5)
                        have row7 := heap_setCell_same w6 g 2 _ _ (.slice (some ⟨gg, 0, none⟩) ((M).length + 1) cap5) row6
                        have o17 := own_set_type (o := 2) (u := .slice (some ⟨gg, 0, none⟩) ((M).length + 1) cap5) o16 row6 (by decide)
                        have o27 := own_set_type (o := 2) (u := .slice (some ⟨gg, 0, none⟩) ((M).length + 1) cap5) o26 row6 (by decide)
                        simp at row7
                        generalize w6.setCell ⟨g, 2, none⟩ (.slice (some ⟨gg, 0, none⟩) ((M).length + 1) cap5) = w7 at hb7 row7 o17 o27 ⊢
                        (try dsimp only)
                        refine hK.out _ _ ⟨keep_cell hb7 c2, keep_cell hb7 y1, keep_cell hb7 y2⟩ (fun hHeld => ?_)
                        clear hK K
                        try simp only [List.getElem_toArray, List.getElem_cons_zero, List.getElem_cons_succ, Act.put, List.setIfInBounds_toArray, List.set_cons_zero, List.set_cons_succ]
                        refine wpAnyH_done (by kernel_rfl) ?_ _
                        clear g0 g1 g2 f0 f1 f2
                        go_wp2_with fail
                        go_roundw
                        case rel => exact ⟨k + 1, true, M ++ [(u1, u2)], some ⟨gg, 0, none⟩, cap5, by omega, by go_num, rfl, Lib.hid (by have h6 := hLk.out; simp at h6 ⊢; omega), hins2, hR4, Lib.hid hb7, by rw [hM1]; exact row7, Lib.hid o17, Lib.hid (by rw [hM1]; exact o27)⟩
                        case measure => simp [intOf]; omega
                    · have i9 : decide (x < u1) = false := decide_eq_false hxu
                      have hins2 : Hid (Tm.ins x y S (k + 1) = (L ++ [(u1, u2)], false)) := Lib.hid (by rw [hins.out, i9]; rfl)
                      clear hins hxu
                      go_quiet (fail)
                      have hdn : Below wq.heap.size wq (wq.drewN nq) := below_drewN (Below.refl _ _) _
                      replace HB := Lib.hid (HB.out.trans (hdn.mono HB.out.size))
                      replace hrow := heap_keep hdn hrow
                      replace HO1 := Lib.hid (own_below HO1.out hdn)
                      replace HO2 := Lib.hid (own_below HO2.out hdn)
                      clear C2 D0 D1 g0 g1 g2 f0 f1 f2 z1 z2 hb
                      generalize wq.drewN nq = ws at HB hrow HO1 HO2 ⊢
                      clear hdn
                      have hb := HB.out
                      have C2 := keep_cell hb c2
                      have D0 := keep_cell hb d0
                      have D1 := keep_cell hb d1
                      have z1 := keep_cell hb y1
                      have z2 := keep_cell hb y2
                      obtain ⟨⟨g0, g1, g2⟩, f0, f1, f2⟩ := row3 hrow
                      obtain ⟨aoM, haM⟩ : ∃ a, a = aoL := ⟨_, rfl⟩
                      obtain ⟨capM, hcM⟩ : ∃ a, a = capL := ⟨_, rfl⟩
                      rw [← haM, ← hcM] at hrow HO2 g2
                      clear haM hcM
                      go_upto_region 18 with fail
                      have hM1 : (L ++ [(u1, u2)]).length = (L).length + 1 := by simp
                      have hL6 : (L).length ≤ 6 := by have h6 := hLk.out; simp at h6 ⊢; omega
                      have hdw : Below ws.heap.size ws ws.drew := below_drewN (Below.refl ws.heap.size ws) 1
                      have hbd := HB.out.trans (hdw.mono HB.out.size)
                      have rowd := heap_keep hdw hrow
                      have o1d := own_below HO1.out hdw
                      have o2d := own_below HO2.out hdw
                      refine wp_region_held_drew (S := fun w' => w'.cell? ⟨G, 2, none⟩ = some (.slice (some ⟨p1, o1, none⟩) nS cS) ∧ w'.cell? ⟨p1, o1 + k * 2, none⟩ = some (.int .i64 u1) ∧ w'.cell? ⟨p1, o1 + k * 2 + 1, none⟩ = some (.int .i64 u2)) (by kernel_rfl) ⟨keep_cell hbd c2, keep_cell hbd y1, keep_cell hbd y2⟩ (fun hHeld => ?_)
                      generalize ws.drew = wd at hbd rowd o1d o2d hHeld ⊢
                      clear hdw g0 g1 g2 f0 f1 f2 C2 D0 D1 z1 z2 hb
                      obtain ⟨⟨g0, g1, g2⟩, f0, f1, f2⟩ := row3 rowd
                      refine wpAnyH_take (i := 0) (v := .pointer (some ⟨g, 2, none⟩)) rfl (by kernel_rfl) (by kernel_rfl) (by kernel_rfl) (fun _ _ _ h => h) (Or.inl ⟨by rfl, fun w hSw => ?_⟩) (by assumption) ?_
                      · obtain ⟨s0, s1, s2⟩ := hSw
                        (go_simp <;> omega)
                      try simp only [List.getElem_toArray, List.getElem_cons_zero, Act.put, List.setIfInBounds_toArray, List.set_cons_zero, List.set_cons_succ]
                      refine wpAnyH_take (i := 2) (v := .pointer (some ⟨G, 2, none⟩)) rfl (by kernel_rfl) (by kernel_rfl) (by kernel_rfl) (fun _ _ _ h => h) (Or.inl ⟨by rfl, fun w hSw => ?_⟩) (by assumption) ?_
                      · obtain ⟨s0, s1, s2⟩ := hSw
                        (go_simp <;> omega)
                      try simp only [List.getElem_toArray, List.getElem_cons_zero, List.getElem_cons_succ, Act.put, List.setIfInBounds_toArray, List.set_cons_zero, List.set_cons_succ]
                      refine wpAnyH_take (i := 3) (v := .slice (some ⟨p1, o1, none⟩) nS cS) rfl (by kernel_rfl) (by kernel_rfl) (by kernel_rfl) (fun _ _ _ h => h) (Or.inl ⟨by rfl, fun w hSw => ?_⟩) (by assumption) ?_
                      · obtain ⟨s0, s1, s2⟩ := hSw
                        (go_simp <;> omega)
                      try simp only [List.getElem_toArray, List.getElem_cons_zero, List.getElem_cons_succ, Act.put, List.setIfInBounds_toArray, List.set_cons_zero, List.set_cons_succ]
                      refine wpAnyH_take (i := 4) (v := .int .i64 k) rfl (by kernel_rfl) (by kernel_rfl) (by kernel_rfl) (fun _ _ _ h => h) (Or.inl ⟨by rfl, fun w hSw => ?_⟩) (by assumption) ?_
                      · obtain ⟨s0, s1, s2⟩ := hSw
                        (go_simp <;> omega)
                      try simp only [List.getElem_toArray, List.getElem_cons_zero, List.getElem_cons_succ, Act.put, List.setIfInBounds_toArray, List.set_cons_zero, List.set_cons_succ]
                      refine wpAnyH_take (i := 5) (v := .pointer (some ⟨p1, o1 + k * 2, none⟩)) rfl (by kernel_rfl) (by kernel_rfl) (by kernel_rfl) (fun _ _ _ h => h) (Or.inl ⟨by rfl, fun w hSw => ?_⟩) (by assumption) ?_
                      · obtain ⟨s0, s1, s2⟩ := hSw
                        (go_simp <;> omega)
                      try simp only [List.getElem_toArray, List.getElem_cons_zero, List.getElem_cons_succ, Act.put, List.setIfInBounds_toArray, List.set_cons_zero, List.set_cons_succ]
                      refine wpAnyH_take (i := 6) (v := .agg #[.int .i64 u1, .int .i64 u2]) rfl (by kernel_rfl) (by kernel_rfl) (by kernel_rfl) (fun _ _ _ h => h) (Or.inl ⟨by rfl, fun w hSw => ?_⟩) (by assumption) ?_
                      · obtain ⟨s0, s1, s2⟩ := hSw
                        (go_simp <;> omega)
                      try simp only [List.getElem_toArray, List.getElem_cons_zero, List.getElem_cons_succ, Act.put, List.setIfInBounds_toArray, List.set_cons_zero, List.set_cons_succ]
                      have hal := (Below.refl wd.heap.size wd).alloc (Nat.le_refl _) (.cells #[.int .i64 u1, .int .i64 u2] 64)
                      have hba := hbd.alloc hbd.size (.cells #[.int .i64 u1, .int .i64 u2] 64)
                      have hnew := heap_alloc_new wd (.cells #[.int .i64 u1, .int .i64 u2] 64)
                      have rowa := heap_keep hal rowd
                      have o1a := o1d.alloc (.cells #[.int .i64 u1, .int .i64 u2] 64)
                      have o2a := o2d.alloc (.cells #[.int .i64 u1, .int .i64 u2] 64)
                      have hcb := hba.size
                      refine wpAnyH_ready (rs := [1, 7]) (by kernel_rfl) (by simp) ?_
                      refine AllReadyH.cons rfl (fun K hK => ?_) (AllReadyH.cons rfl (fun K hK => ?_) AllReadyH.nil)
                      · go_simp
                        (try dsimp only)
                        refine hK.out _ _ ⟨keep_cell hbd c2, keep_cell hbd y1, keep_cell hbd y2⟩ (fun hHeld => ?_)
                        clear hK K
                        try simp only [List.getElem_toArray, List.getElem_cons_zero, List.getElem_cons_succ, Act.put, List.setIfInBounds_toArray, List.set_cons_zero, List.set_cons_succ]
                        refine wpAnyH_ready (rs := [7]) (by kernel_rfl) (by simp) ?_
                        refine AllReadyH.cons rfl (fun K hK => ?_) AllReadyH.nil
                        go_simp
                        generalize wd.alloc (.cells #[.int .i64 u1, .int .i64 u2] 64) = wa at hal hba hnew rowa o1a o2a hcb ⊢
                        (try dsimp only)
                        refine hK.out _ _ ⟨keep_cell hba c2, keep_cell hba y1, keep_cell hba y2⟩ (fun hHeld => ?_)
                        clear hK K
                        try simp only [List.getElem_toArray, List.getElem_cons_zero, List.getElem_cons_succ, Act.put, List.setIfInBounds_toArray, List.set_cons_zero, List.set_cons_succ]
                        refine wpAnyH_ready (rs := [8]) (by kernel_rfl) (by simp) ?_
                        refine AllReadyH.cons rfl (fun K hK => ?_) AllReadyH.nil
                        refine step_append_lies _ (by rfl) _ _ _ (by rfl) w2.heap.size 64 i1 _ 2 16 Try.underlying23 hi1 hy0 hy1 hy2 rfl (by omega) _ (L).length _ (by rfl) o2a ⟨wd.heap.size, 0, none⟩ 1 1 [.int .i64 u1, .int .i64 u2] (by rfl) (by rfl) (World.news_of_block (cs := #[.int .i64 u1, .int .i64 u2]) (t := 64) (fr := (0, 0)) hnew) (by simp [Value.oneCell']) (by omega) (by unfold maxLen; omega) (by omega) hcb (wa.heap.size) rfl ?_
                        intro gg cap5 w6 hown6 hgrow hat hlt6
                        have hb6 := hba.grown hgrow hba.size (fun q hq => (o2a.lt _ hq).1)
                        have hoff : ∀ q, Value.ownBlock (.slice aoM (L).length capM) = some q → ∀ (t : TypeId), t ≠ 64 → ∀ cs fr, wa.heap[q]? ≠ some (.cells cs t fr) := fun q hq t ht cs fr h => by
                          obtain ⟨c, h2⟩ := own_row o2a q hq
                          rw [h] at h2
                          simp only [Option.some.injEq, Obj.cells.injEq] at h2
                          exact ht h2.2.1
                        have row6 := heap_grown rowa hgrow (fun q hq => hoff q hq _ (by decide))
                        have o16 := own_grown o1a hgrow (fun q hq => hoff q hq _ (by decide))
                        have o26 : w6.ownsRow w2.heap.size 64 2 (.slice (some ⟨gg, 0, none⟩) ((L).length + 1) cap5) ((L).length + 1) (flat2 (L ++ [(u1, u2)])) := by rw [flat2_app]; exact hown6
                        clear hown6 hgrow hat hoff rowa o1a o2a hnew
                        (try dsimp only)
                        refine hK.out _ _ ⟨keep_cell hb6 c2, keep_cell hb6 y1, keep_cell hb6 y2⟩ (fun hHeld => ?_)
                        clear hK K
                        try simp only [List.getElem_toArray, List.getElem_cons_zero, List.getElem_cons_succ, Act.put, List.setIfInBounds_toArray, List.set_cons_zero, List.set_cons_succ]
                        refine wpAnyH_take (i := 9) (v := .pointer (some ⟨g, 2, none⟩)) rfl (by kernel_rfl) (by kernel_rfl) (by kernel_rfl) (fun _ _ _ h => h) (Or.inl ⟨by rfl, fun w hSw => ?_⟩) (by assumption) ?_
                        · obtain ⟨s0, s1, s2⟩ := hSw
                          (go_simp <;> omega)
                        try simp only [List.getElem_toArray, List.getElem_cons_zero, List.getElem_cons_succ, Act.put, List.setIfInBounds_toArray, List.set_cons_zero, List.set_cons_succ]
                        clear g0 g1 g2 f0 f1 f2
                        obtain ⟨⟨g0, g1, g2⟩, f0, f1, f2⟩ := row3 row6
                        refine wpAnyH_ready (rs := [10]) (by kernel_rfl) (by simp) ?_
                        refine AllReadyH.cons rfl (fun K hK => ?_) AllReadyH.nil
                        go_simp
                        have hb7 := below_setCell (o := 2) hb6 h72 (.slice (some ⟨gg, 0, none⟩) ((L).length + 1) cap5)
                        have row7 := heap_setCell_same w6 g 2 _ _ (.slice (some ⟨gg, 0, none⟩) ((L).length + 1) cap5) row6
                        have o17 := own_set_type (o := 2) (u := .slice (some ⟨gg, 0, none⟩) ((L).length + 1) cap5) o16 row6 (by decide)
                        have o27 := own_set_type (o := 2) (u := .slice (some ⟨gg, 0, none⟩) ((L).length + 1) cap5) o26 row6 (by decide)
                        simp at row7
                        generalize w6.setCell ⟨g, 2, none⟩ (.slice (some ⟨gg, 0, none⟩) ((L).length + 1) cap5) = w7 at hb7 row7 o17 o27 ⊢
                        (try dsimp only)
                        refine hK.out _ _ ⟨keep_cell hb7 c2, keep_cell hb7 y1, keep_cell hb7 y2⟩ (fun hHeld => ?_)
                        clear hK K
                        try simp only [List.getElem_toArray, List.getElem_cons_zero, List.getElem_cons_succ, Act.put, List.setIfInBounds_toArray, List.set_cons_zero, List.set_cons_succ]
                        refine wpAnyH_done (by kernel_rfl) ?_ _
                        clear g0 g1 g2 f0 f1 f2
                        go_wp2_with fail
                        go_roundw
                        case rel => exact ⟨k + 1, false, L ++ [(u1, u2)], some ⟨gg, 0, none⟩, cap5, by omega, by go_num, rfl, Lib.hid (by have h6 := hLk.out; simp at h6 ⊢; omega), hins2, hR4, Lib.hid hb7, by rw [hM1]; exact row7, Lib.hid o17, Lib.hid (by rw [hM1]; exact o27)⟩
                        case measure => simp [intOf]; omega
                      · go_simp
                        generalize wd.alloc (.cells #[.int .i64 u1, .int .i64 u2] 64) = wa at hal hba hnew rowa o1a o2a hcb ⊢
                        (try dsimp only)
                        refine hK.out _ _ ⟨keep_cell hba c2, keep_cell hba y1, keep_cell hba y2⟩ (fun hHeld => ?_)
                        clear hK K
                        try simp only [List.getElem_toArray, List.getElem_cons_zero, List.getElem_cons_succ, Act.put, List.setIfInBounds_toArray, List.set_cons_zero, List.set_cons_succ]
                        clear g0 g1 g2 f0 f1 f2
                        obtain ⟨⟨g0, g1, g2⟩, f0, f1, f2⟩ := row3 rowa
                        refine wpAnyH_ready (rs := [1]) (by kernel_rfl) (by simp) ?_
                        refine AllReadyH.cons rfl (fun K hK => ?_) AllReadyH.nil
                        go_simp
                        (try dsimp only)
                        refine hK.out _ _ ⟨keep_cell hba c2, keep_cell hba y1, keep_cell hba y2⟩ (fun hHeld => ?_)
                        clear hK K
                        try simp only [List.getElem_toArray, List.getElem_cons_zero, List.getElem_cons_succ, Act.put, List.setIfInBounds_toArray, List.set_cons_zero, List.set_cons_succ]
                        refine wpAnyH_ready (rs := [8]) (by kernel_rfl) (by simp) ?_
                        refine AllReadyH.cons rfl (fun K hK => ?_) AllReadyH.nil
                        refine step_append_lies _ (by rfl) _ _ _ (by rfl) w2.heap.size 64 i1 _ 2 16 Try.underlying23 hi1 hy0 hy1 hy2 rfl (by omega) _ (L).length _ (by rfl) o2a ⟨wd.heap.size, 0, none⟩ 1 1 [.int .i64 u1, .int .i64 u2] (by rfl) (by rfl) (World.news_of_block (cs := #[.int .i64 u1, .int .i64 u2]) (t := 64) (fr := (0, 0)) hnew) (by simp [Value.oneCell']) (by omega) (by unfold maxLen; omega) (by omega) hcb (wa.heap.size) rfl ?_
                        intro gg cap5 w6 hown6 hgrow hat hlt6
                        have hb6 := hba.grown hgrow hba.size (fun q hq => (o2a.lt _ hq).1)
                        have hoff : ∀ q, Value.ownBlock (.slice aoM (L).length capM) = some q → ∀ (t : TypeId), t ≠ 64 → ∀ cs fr, wa.heap[q]? ≠ some (.cells cs t fr) := fun q hq t ht cs fr h => by
                          obtain ⟨c, h2⟩ := own_row o2a q hq
                          rw [h] at h2
                          simp only [Option.some.injEq, Obj.cells.injEq] at h2
                          exact ht h2.2.1
                        have row6 := heap_grown rowa hgrow (fun q hq => hoff q hq _ (by decide))
                        have o16 := own_grown o1a hgrow (fun q hq => hoff q hq _ (by decide))
                        have o26 : w6.ownsRow w2.heap.size 64 2 (.slice (some ⟨gg, 0, none⟩) ((L).length + 1) cap5) ((L).length + 1) (flat2 (L ++ [(u1, u2)])) := by rw [flat2_app]; exact hown6
                        clear hown6 hgrow hat hoff rowa o1a o2a hnew
                        (try dsimp only)
                        refine hK.out _ _ ⟨keep_cell hb6 c2, keep_cell hb6 y1, keep_cell hb6 y2⟩ (fun hHeld => ?_)
                        clear hK K
                        try simp only [List.getElem_toArray, List.getElem_cons_zero, List.getElem_cons_succ, Act.put, List.setIfInBounds_toArray, List.set_cons_zero, List.set_cons_succ]
                        refine wpAnyH_take (i := 9) (v := .pointer (some ⟨g, 2, none⟩)) rfl (by kernel_rfl) (by kernel_rfl) (by kernel_rfl) (fun _ _ _ h => h) (Or.inl ⟨by rfl, fun w hSw => ?_⟩) (by assumption) ?_
                        · obtain ⟨s0, s1, s2⟩ := hSw
                          (go_simp <;> omega)
                        try simp only [List.getElem_toArray, List.getElem_cons_zero, List.getElem_cons_succ, Act.put, List.setIfInBounds_toArray, List.set_cons_zero, List.set_cons_succ]
                        clear g0 g1 g2 f0 f1 f2
                        obtain ⟨⟨g0, g1, g2⟩, f0, f1, f2⟩ := row3 row6
                        refine wpAnyH_ready (rs := [10]) (by kernel_rfl) (by simp) ?_
                        refine AllReadyH.cons rfl (fun K hK => ?_) AllReadyH.nil
                        go_simp
                        have hb7 := below_setCell (o := 2) hb6 h72 (.slice (some ⟨gg, 0, none⟩) ((L).length + 1) cap5)
                        have row7 := heap_setCell_same w6 g 2 _ _ (.slice (some ⟨gg, 0, none⟩) ((L).length + 1) cap5) row6
                        have o17 := own_set_type (o := 2) (u := .slice (some ⟨gg, 0, none⟩) ((L).length + 1) cap5) o16 row6 (by decide)
                        have o27 := own_set_type (o := 2) (u := .slice (some ⟨gg, 0, none⟩) ((L).length + 1) cap5) o26 row6 (by decide)
                        simp at row7
                        generalize w6.setCell ⟨g, 2, none⟩ (.slice (some ⟨gg, 0, none⟩) ((L).length + 1) cap5) = w7 at hb7 row7 o17 o27 ⊢
                        (try dsimp only)
                        refine hK.out _ _ ⟨keep_cell hb7 c2, keep_cell hb7 y1, keep_cell hb7 y2⟩ (fun hHeld => ?_)
                        clear hK K
                        try simp only [List.getElem_toArray, List.getElem_cons_zero, List.getElem_cons_succ, Act.put, List.setIfInBounds_toArray, List.set_cons_zero, List.set_cons_succ]
                        refine wpAnyH_done (by kernel_rfl) ?_ _
                        clear g0 g1 g2 f0 f1 f2
                        go_wp2_with fail
                        go_roundw
                        case rel => exact ⟨k + 1, false, L ++ [(u1, u2)], some ⟨gg, 0, none⟩, cap5, by omega, by go_num, rfl, Lib.hid (by have h6 := hLk.out; simp at h6 ⊢; omega), hins2, hR4, Lib.hid hb7, by rw [hM1]; exact row7, Lib.hid o17, Lib.hid (by rw [hM1]; exact o27)⟩
                        case measure => simp [intOf]; omega
              · have i7 : decide (u1 ≤ y) = false := decide_eq_false hy
                have hR4 : Hid (R = if Tm.shares x y (S.drop (k + 1)) then 6 else 0) := Lib.hid (by rw [HR3.out, hst.out, i7, Bool.and_false, Bool.false_or])
                clear hst HR3 hy
                go_upto_region 13 with fail
                go_quiet (fail)
                have hdn : Below wr.heap.size wr (wr.drewN nq) := below_drewN (Below.refl _ _) _
                replace HB := Lib.hid (HB.out.trans (hdn.mono HB.out.size))
                replace hrow := heap_keep hdn hrow
                replace HO1 := Lib.hid (own_below HO1.out hdn)
                replace HO2 := Lib.hid (own_below HO2.out hdn)
                clear C2 D0 D1 g0 g1 g2 f0 f1 f2 z1 z2 hb
                generalize wr.drewN nq = wq at HB hrow HO1 HO2 ⊢
                clear hdn
                have hb := HB.out
                have C2 := keep_cell hb c2
                have D0 := keep_cell hb d0
                have D1 := keep_cell hb d1
                have z1 := keep_cell hb y1
                have z2 := keep_cell hb y2
                obtain ⟨⟨g0, g1, g2⟩, f0, f1, f2⟩ := row3 hrow
                go_upto_region 15 with fail
                cases b with
                | true =>
                  have hins2 : Hid (Tm.ins x y S (k + 1) = (L ++ [(u1, u2)], true)) := hins
                  go_quiet (fail)
                  have hdn : Below wq.heap.size wq (wq.drewN nq) := below_drewN (Below.refl _ _) _
                  replace HB := Lib.hid (HB.out.trans (hdn.mono HB.out.size))
                  replace hrow := heap_keep hdn hrow
                  replace HO1 := Lib.hid (own_below HO1.out hdn)
                  replace HO2 := Lib.hid (own_below HO2.out hdn)
                  clear C2 D0 D1 g0 g1 g2 f0 f1 f2 z1 z2 hb
                  generalize wq.drewN nq = ws at HB hrow HO1 HO2 ⊢
                  clear hdn
                  have hb := HB.out
                  have C2 := keep_cell hb c2
                  have D0 := keep_cell hb d0
                  have D1 := keep_cell hb d1
                  have z1 := keep_cell hb y1
                  have z2 := keep_cell hb y2
                  obtain ⟨⟨g0, g1, g2⟩, f0, f1, f2⟩ := row3 hrow
                  obtain ⟨aoM, haM⟩ : ∃ a, a = aoL := ⟨_, rfl⟩
                  obtain ⟨capM, hcM⟩ : ∃ a, a = capL := ⟨_, rfl⟩
                  rw [← haM, ← hcM] at hrow HO2 g2
                  clear haM hcM
                  go_upto_region 18 with fail
                  have hM1 : (L ++ [(u1, u2)]).length = (L).length + 1 := by simp
                  have hL6 : (L).length ≤ 6 := by have h6 := hLk.out; simp at h6 ⊢; omega
                  have hdw : Below ws.heap.size ws ws.drew := below_drewN (Below.refl ws.heap.size ws) 1
                  have hbd := HB.out.trans (hdw.mono HB.out.size)
                  have rowd := heap_keep hdw hrow
                  have o1d := own_below HO1.out hdw
                  have o2d := own_below HO2.out hdw
                  refine wp_region_held_drew (S := fun w' => w'.cell? ⟨G, 2, none⟩ = some (.slice (some ⟨p1, o1, none⟩) nS cS) ∧ w'.cell? ⟨p1, o1 + k * 2, none⟩ = some (.int .i64 u1) ∧ w'.cell? ⟨p1, o1 + k * 2 + 1, none⟩ = some (.int .i64 u2)) (by kernel_rfl) ⟨keep_cell hbd c2, keep_cell hbd y1, keep_cell hbd y2⟩ (fun hHeld => ?_)
                  generalize ws.drew = wd at hbd rowd o1d o2d hHeld ⊢
                  clear hdw g0 g1 g2 f0 f1 f2 C2 D0 D1 z1 z2 hb
                  obtain ⟨⟨g0, g1, g2⟩, f0, f1, f2⟩ := row3 rowd
                  refine wpAnyH_take (i := 0) (v := .pointer (some ⟨g, 2, none⟩)) rfl (by kernel_rfl) (by kernel_rfl) (by kernel_rfl) (fun _ _ _ h => h) (Or.inl ⟨by rfl, fun w hSw => ?_⟩) (by assumption) ?_
                  · obtain ⟨s0, s1, s2⟩ := hSw
                    (go_simp <;> omega)
                  try simp only [List.getElem_toArray, List.getElem_cons_zero, Act.put, List.setIfInBounds_toArray, List.set_cons_zero, List.set_cons_succ]
                  refine wpAnyH_take (i := 2) (v := .pointer (some ⟨G, 2, none⟩)) rfl (by kernel_rfl) (by kernel_rfl) (by kernel_rfl) (fun _ _ _ h => h) (Or.inl ⟨by rfl, fun w hSw => ?_⟩) (by assumption) ?_
                  · obtain ⟨s0, s1, s2⟩ := hSw
                    (go_simp <;> omega)
                  try simp only [List.getElem_toArray, List.getElem_cons_zero, List.getElem_cons_succ, Act.put, List.setIfInBounds_toArray, List.set_cons_zero, List.set_cons_succ]
                  refine wpAnyH_take (i := 3) (v := .slice (some ⟨p1, o1, none⟩) nS cS) rfl (by kernel_rfl) (by kernel_rfl) (by kernel_rfl) (fun _ _ _ h => h) (Or.inl ⟨by rfl, fun w hSw => ?_⟩) (by assumption) ?_
                  · obtain ⟨s0, s1, s2⟩ := hSw
                    (go_simp <;> omega)
                  try simp only [List.getElem_toArray, List.getElem_cons_zero, List.getElem_cons_succ, Act.put, List.setIfInBounds_toArray, List.set_cons_zero, List.set_cons_succ]
                  refine wpAnyH_take (i := 4) (v := .int .i64 k) rfl (by kernel_rfl) (by kernel_rfl) (by kernel_rfl) (fun _ _ _ h => h) (Or.inl ⟨by rfl, fun w hSw => ?_⟩) (by assumption) ?_
                  · obtain ⟨s0, s1, s2⟩ := hSw
                    (go_simp <;> omega)
                  try simp only [List.getElem_toArray, List.getElem_cons_zero, List.getElem_cons_succ, Act.put, List.setIfInBounds_toArray, List.set_cons_zero, List.set_cons_succ]
                  refine wpAnyH_take (i := 5) (v := .pointer (some ⟨p1, o1 + k * 2, none⟩)) rfl (by kernel_rfl) (by kernel_rfl) (by kernel_rfl) (fun _ _ _ h => h) (Or.inl ⟨by rfl, fun w hSw => ?_⟩) (by assumption) ?_
                  · obtain ⟨s0, s1, s2⟩ := hSw
                    (go_simp <;> omega)
                  try simp only [List.getElem_toArray, List.getElem_cons_zero, List.getElem_cons_succ, Act.put, List.setIfInBounds_toArray, List.set_cons_zero, List.set_cons_succ]
                  refine wpAnyH_take (i := 6) (v := .agg #[.int .i64 u1, .int .i64 u2]) rfl (by kernel_rfl) (by kernel_rfl) (by kernel_rfl) (fun _ _ _ h => h) (Or.inl ⟨by rfl, fun w hSw => ?_⟩) (by assumption) ?_
                  · obtain ⟨s0, s1, s2⟩ := hSw
                    (go_simp <;> omega)
                  try simp only [List.getElem_toArray, List.getElem_cons_zero, List.getElem_cons_succ, Act.put, List.setIfInBounds_toArray, List.set_cons_zero, List.set_cons_succ]
                  have hal := (Below.refl wd.heap.size wd).alloc (Nat.le_refl _) (.cells #[.int .i64 u1, .int .i64 u2] 64)
                  have hba := hbd.alloc hbd.size (.cells #[.int .i64 u1, .int .i64 u2] 64)
                  have hnew := heap_alloc_new wd (.cells #[.int .i64 u1, .int .i64 u2] 64)
                  have rowa := heap_keep hal rowd
                  have o1a := o1d.alloc (.cells #[.int .i64 u1, .int .i64 u2] 64)
                  have o2a := o2d.alloc (.cells #[.int .i64 u1, .int .i64 u2] 64)
                  have hcb := hba.size
                  refine wpAnyH_ready (rs := [1, 7]) (by kernel_rfl) (by simp) ?_
                  refine AllReadyH.cons rfl (fun K hK => ?_) (AllReadyH.cons rfl (fun K hK => ?_) AllReadyH.nil)
                  · go_simp
                    (try dsimp only)
                    refine hK.out _ _ ⟨keep_cell hbd c2, keep_cell hbd y1, keep_cell hbd y2⟩ (fun hHeld => ?_)
                    clear hK K
                    try simp only [List.getElem_toArray, List.getElem_cons_zero, List.getElem_cons_succ, Act.put, List.setIfInBounds_toArray, List.set_cons_zero, List.set_cons_succ]
                    refine wpAnyH_ready (rs := [7]) (by kernel_rfl) (by simp) ?_
                    refine AllReadyH.cons rfl (fun K hK => ?_) AllReadyH.nil
                    go_simp
                    generalize wd.alloc (.cells #[.int .i64 u1, .int .i64 u2] 64) = wa at hal hba hnew rowa o1a o2a hcb ⊢
                    (try dsimp only)
                    refine hK.out _ _ ⟨keep_cell hba c2, keep_cell hba y1, keep_cell hba y2⟩ (fun hHeld => ?_)
                    clear hK K
                    try simp only [List.getElem_toArray, List.getElem_cons_zero, List.getElem_cons_succ, Act.put, List.setIfInBounds_toArray, List.set_cons_zero, List.set_cons_succ]
                    refine wpAnyH_ready (rs := [8]) (by kernel_rfl) (by simp) ?_
                    refine AllReadyH.cons rfl (fun K hK => ?_) AllReadyH.nil
                    refine step_append_lies _ (by rfl) _ _ _ (by rfl) w2.heap.size 64 i1 _ 2 16 Try.underlying23 hi1 hy0 hy1 hy2 rfl (by omega) _ (L).length _ (by rfl) o2a ⟨wd.heap.size, 0, none⟩ 1 1 [.int .i64 u1, .int .i64 u2] (by rfl) (by rfl) (World.news_of_block (cs := #[.int .i64 u1, .int .i64 u2]) (t := 64) (fr := (0, 0)) hnew) (by simp [Value.oneCell']) (by omega) (by unfold maxLen; omega) (by omega) hcb (wa.heap.size) rfl ?_
                    intro gg cap5 w6 hown6 hgrow hat hlt6
                    have hb6 := hba.grown hgrow hba.size (fun q hq => (o2a.lt _ hq).1)
                    have hoff : ∀ q, Value.ownBlock (.slice aoM (L).length capM) = some q → ∀ (t : TypeId), t ≠ 64 → ∀ cs fr, wa.heap[q]? ≠ some (.cells cs t fr) := fun q hq t ht cs fr h => by
                      obtain ⟨c, h2⟩ := own_row o2a q hq
                      rw [h] at h2
                      simp only [Option.some.injEq, Obj.cells.injEq] at h2
                      exact ht h2.2.1
                    have row6 := heap_grown rowa hgrow (fun q hq => hoff q hq _ (by decide))
                    have o16 := own_grown o1a hgrow (fun q hq => hoff q hq _ (by decide))
                    have o26 : w6.ownsRow w2.heap.size 64 2 (.slice (some ⟨gg, 0, none⟩) ((L).length + 1) cap5) ((L).length + 1) (flat2 (L ++ [(u1, u2)])) := by rw [flat2_app]; exact hown6
                    clear hown6 hgrow hat hoff rowa o1a o2a hnew
                    (try dsimp only)
                    refine hK.out _ _ ⟨keep_cell hb6 c2, keep_cell hb6 y1, keep_cell hb6 y2⟩ (fun hHeld => ?_)
                    clear hK K
                    try simp only [List.getElem_toArray, List.getElem_cons_zero, List.getElem_cons_succ, Act.put, List.setIfInBounds_toArray, List.set_cons_zero, List.set_cons_succ]
                    refine wpAnyH_take (i := 9) (v := .pointer (some ⟨g, 2, none⟩)) rfl (by kernel_rfl) (by kernel_rfl) (by kernel_rfl) (fun _ _ _ h => h) (Or.inl ⟨by rfl, fun w hSw => ?_⟩) (by assumption) ?_
                    · obtain ⟨s0, s1, s2⟩ := hSw
                      (go_simp <;> omega)
                    try simp only [List.getElem_toArray, List.getElem_cons_zero, List.getElem_cons_succ, Act.put, List.setIfInBounds_toArray, List.set_cons_zero, List.set_cons_succ]
                    clear g0 g1 g2 f0 f1 f2
                    obtain ⟨⟨g0, g1, g2⟩, f0, f1, f2⟩ := row3 row6
                    refine wpAnyH_ready (rs := [10]) (by kernel_rfl) (by simp) ?_
                    refine AllReadyH.cons rfl (fun K hK => ?_) AllReadyH.nil
                    go_simp
                    have hb7 := below_setCell (o := 2) hb6 h72 (.slice (some ⟨gg, 0, none⟩) ((L).length + 1) cap5)
                    have row7 := heap_setCell_same w6 g 2 _ _ (.slice (some ⟨gg, 0, none⟩) ((L).length + 1) cap5) row6
                    have o17 := own_set_type (o := 2) (u := .slice (some ⟨gg, 0, none⟩) ((L).length + 1) cap5) o16 row6 (by decide)
                    have o27 := own_set_type (o := 2) (u := .slice (some ⟨gg, 0, none⟩) ((L).length + 1) cap5) o26 row6 (by decide)
                    simp at row7
                    generalize w6.setCell ⟨g, 2, none⟩ (.slice (some ⟨gg, 0, none⟩) ((L).length + 1) cap5) = w7 at hb7 row7 o17 o27 ⊢
                    (try dsimp only)
                    refine hK.out _ _ ⟨keep_cell hb7 c2, keep_cell hb7 y1, keep_cell hb7 y2⟩ (fun hHeld => ?_)
                    clear hK K
                    try simp only [List.getElem_toArray, List.getElem_cons_zero, List.getElem_cons_succ, Act.put, List.setIfInBounds_toArray, List.set_cons_zero, List.set_cons_succ]
                    refine wpAnyH_done (by kernel_rfl) ?_ _
                    clear g0 g1 g2 f0 f1 f2
                    go_wp2_with fail
                    go_roundw
                    case rel => exact ⟨k + 1, true, L ++ [(u1, u2)], some ⟨gg, 0, none⟩, cap5, by omega, by go_num, rfl, Lib.hid (by have h6 := hLk.out; simp at h6 ⊢; omega), hins2, hR4, Lib.hid hb7, by rw [hM1]; exact row7, Lib.hid o17, Lib.hid (by rw [hM1]; exact o27)⟩
                    case measure => simp [intOf]; omega
                  · go_simp
                    generalize wd.alloc (.cells #[.int .i64 u1, .int .i64 u2] 64) = wa at hal hba hnew rowa o1a o2a hcb ⊢
                    (try dsimp only)
                    refine hK.out _ _ ⟨keep_cell hba c2, keep_cell hba y1, keep_cell hba y2⟩ (fun hHeld => ?_)
                    clear hK K
                    try simp only [List.getElem_toArray, List.getElem_cons_zero, List.getElem_cons_succ, Act.put, List.setIfInBounds_toArray, List.set_cons_zero, List.set_cons_succ]
                    clear g0 g1 g2 f0 f1 f2
                    obtain ⟨⟨g0, g1, g2⟩, f0, f1, f2⟩ := row3 rowa
                    refine wpAnyH_ready (rs := [1]) (by kernel_rfl) (by simp) ?_
                    refine AllReadyH.cons rfl (fun K hK => ?_) AllReadyH.nil
                    go_simp
                    (try dsimp only)
                    refine hK.out _ _ ⟨keep_cell hba c2, keep_cell hba y1, keep_cell hba y2⟩ (fun hHeld => ?_)
                    clear hK K
                    try simp only [List.getElem_toArray, List.getElem_cons_zero, List.getElem_cons_succ, Act.put, List.setIfInBounds_toArray, List.set_cons_zero, List.set_cons_succ]
                    refine wpAnyH_ready (rs := [8]) (by kernel_rfl) (by simp) ?_
                    refine AllReadyH.cons rfl (fun K hK => ?_) AllReadyH.nil
                    refine step_append_lies _ (by rfl) _ _ _ (by rfl) w2.heap.size 64 i1 _ 2 16 Try.underlying23 hi1 hy0 hy1 hy2 rfl (by omega) _ (L).length _ (by rfl) o2a ⟨wd.heap.size, 0, none⟩ 1 1 [.int .i64 u1, .int .i64 u2] (by rfl) (by rfl) (World.news_of_block (cs := #[.int .i64 u1, .int .i64 u2]) (t := 64) (fr := (0, 0)) hnew) (by simp [Value.oneCell']) (by omega) (by unfold maxLen; omega) (by omega) hcb (wa.heap.size) rfl ?_
                    intro gg cap5 w6 hown6 hgrow hat hlt6
                    have hb6 := hba.grown hgrow hba.size (fun q hq => (o2a.lt _ hq).1)
                    have hoff : ∀ q, Value.ownBlock (.slice aoM (L).length capM) = some q → ∀ (t : TypeId), t ≠ 64 → ∀ cs fr, wa.heap[q]? ≠ some (.cells cs t fr) := fun q hq t ht cs fr h => by
                      obtain ⟨c, h2⟩ := own_row o2a q hq
                      rw [h] at h2
                      simp only [Option.some.injEq, Obj.cells.injEq] at h2
                      exact ht h2.2.1
                    have row6 := heap_grown rowa hgrow (fun q hq => hoff q hq _ (by decide))
                    have o16 := own_grown o1a hgrow (fun q hq => hoff q hq _ (by decide))
                    have o26 : w6.ownsRow w2.heap.size 64 2 (.slice (some ⟨gg, 0, none⟩) ((L).length + 1) cap5) ((L).length + 1) (flat2 (L ++ [(u1, u2)])) := by rw [flat2_app]; exact hown6
                    clear hown6 hgrow hat hoff rowa o1a o2a hnew
                    (try dsimp only)
                    refine hK.out _ _ ⟨keep_cell hb6 c2, keep_cell hb6 y1, keep_cell hb6 y2⟩ (fun hHeld => ?_)
                    clear hK K
                    try simp only [List.getElem_toArray, List.getElem_cons_zero, List.getElem_cons_succ, Act.put, List.setIfInBounds_toArray, List.set_cons_zero, List.set_cons_succ]
                    refine wpAnyH_take (i := 9) (v := .pointer (some ⟨g, 2, none⟩)) rfl (by kernel_rfl) (by kernel_rfl) (by kernel_rfl) (fun _ _ _ h => h) (Or.inl ⟨by rfl, fun w hSw => ?_⟩) (by assumption) ?_
                    · obtain ⟨s0, s1, s2⟩ := hSw
                      (go_simp <;> omega)
                    try simp only [List.getElem_toArray, List.getElem_cons_zero, List.getElem_cons_succ, Act.put, List.setIfInBounds_toArray, List.set_cons_zero, List.set_cons_succ]
                    clear g0 g1 g2 f0 f1 f2
                    obtain ⟨⟨g0, g1, g2⟩, f0, f1, f2⟩ := row3 row6
                    refine wpAnyH_ready (rs := [10]) (by kernel_rfl) (by simp) ?_
                    refine AllReadyH.cons rfl (fun K hK => ?_) AllReadyH.nil
                    go_simp
                    have hb7 := below_setCell (o := 2) hb6 h72 (.slice (some ⟨gg, 0, none⟩) ((L).length + 1) cap5)
                    have row7 := heap_setCell_same w6 g 2 _ _ (.slice (some ⟨gg, 0, none⟩) ((L).length + 1) cap5) row6
                    have o17 := own_set_type (o := 2) (u := .slice (some ⟨gg, 0, none⟩) ((L).length + 1) cap5) o16 row6 (by decide)
                    have o27 := own_set_type (o := 2) (u := .slice (some ⟨gg, 0, none⟩) ((L).length + 1) cap5) o26 row6 (by decide)
                    simp at row7
                    generalize w6.setCell ⟨g, 2, none⟩ (.slice (some ⟨gg, 0, none⟩) ((L).length + 1) cap5) = w7 at hb7 row7 o17 o27 ⊢
                    (try dsimp only)
                    refine hK.out _ _ ⟨keep_cell hb7 c2, keep_cell hb7 y1, keep_cell hb7 y2⟩ (fun hHeld => ?_)
                    clear hK K
                    try simp only [List.getElem_toArray, List.getElem_cons_zero, List.getElem_cons_succ, Act.put, List.setIfInBounds_toArray, List.set_cons_zero, List.set_cons_succ]
                    refine wpAnyH_done (by kernel_rfl) ?_ _
                    clear g0 g1 g2 f0 f1 f2
                    go_wp2_with fail
                    go_roundw
                    case rel => exact ⟨k + 1, true, L ++ [(u1, u2)], some ⟨gg, 0, none⟩, cap5, by omega, by go_num, rfl, Lib.hid (by have h6 := hLk.out; simp at h6 ⊢; omega), hins2, hR4, Lib.hid hb7, by rw [hM1]; exact row7, Lib.hid o17, Lib.hid (by rw [hM1]; exact o27)⟩
                    case measure => simp [intOf]; omega
                | false =>
                  by_cases hxu : x < u1
                  · have i9 : decide (x < u1) = true := decide_eq_true hxu
                    have hins2 : Hid (Tm.ins x y S (k + 1) = (L ++ [(x, y)] ++ [(u1, u2)], true)) := Lib.hid (by rw [hins.out, i9]; rfl)
                    clear hins hxu
                    go_quiet (fail)
                    have hdn : Below wq.heap.size wq (wq.drewN nq) := below_drewN (Below.refl _ _) _
                    replace HB := Lib.hid (HB.out.trans (hdn.mono HB.out.size))
                    replace hrow := heap_keep hdn hrow
                    replace HO1 := Lib.hid (own_below HO1.out hdn)
                    replace HO2 := Lib.hid (own_below HO2.out hdn)
                    clear C2 D0 D1 g0 g1 g2 f0 f1 f2 z1 z2 hb
                    generalize wq.drewN nq = ws at HB hrow HO1 HO2 ⊢
                    clear hdn
                    have hb := HB.out
                    have C2 := keep_cell hb c2
                    have D0 := keep_cell hb d0
                    have D1 := keep_cell hb d1
                    have z1 := keep_cell hb y1
                    have z2 := keep_cell hb y2
                    obtain ⟨⟨g0, g1, g2⟩, f0, f1, f2⟩ := row3 hrow
                    have hL6 : L.length ≤ 5 := by have h6 := hLk.out; simp at h6; omega
                    have hcs := HB.out.size
                    go_upto_region 18 with (first | (at_builtin; refine wpList_append_own _ rfl _ _ 23 rfl w2.heap.size 64 i1 (.agg #[.int .i64 0, .int .i64 0]) 2 16 Try.underlying23 hi1 hy0 hy1 hy2 rfl (by decide) _ L.length _ rfl (HO2.out.alloc _) ⟨ws.heap.size, 0, none⟩ 1 1 [.int .i64 x, .int .i64 y] rfl rfl (World.news_of_block (cs := #[.int .i64 x, .int .i64 y]) (t := 64) (fr := (0, 0)) (heap_alloc_new ws _)) (by simp [Value.oneCell']) (by unfold maxLen; omega) (by omega) (by simp; omega) ?_; intro v6 w6 hown6 hgrow6 hnil6; obtain ⟨aoM, capM, rfl, hb6, row6, o16, o26⟩ := appended hi1 HB.out hrow HO1.out HO2.out hown6 hgrow6; clear hown6 hgrow6 hnil6; have r6 := row3 row6; obtain ⟨⟨n0, n1, n2⟩, m0, m1, m2⟩ := r6))
                    have hb7 := below_setCell (o := 2) hb6 h72 (.slice aoM (L.length + 1) capM)
                    have row7 := heap_setCell_same w6 g 2 _ _ (.slice aoM (L.length + 1) capM) row6
                    have o17 := own_set_type (o := 2) (u := .slice aoM (L.length + 1) capM) o16 row6 (by decide)
                    have o27 := own_set_type (o := 2) (u := .slice aoM (L.length + 1) capM) o26 row6 (by decide)
                    simp at row7
                    clear n0 n1 n2 m0 m1 m2 hb6 row6 o16 o26 hcs
                    generalize w6.setCell ⟨g, 2, none⟩ (.slice aoM (L.length + 1) capM) = wv at hb7 row7 o17 o27 ⊢
                    obtain ⟨M, hM⟩ : ∃ M, M = L ++ [(x, y)] := ⟨_, rfl⟩
                    have hM2 : L.length + 1 = M.length := by rw [hM]; simp
                    rw [← hM] at o27 hins2
                    rw [hM2] at row7 o27
                    replace hLk : Hid (M.length = k + true.toNat) := Lib.hid (by have h6 := hLk.out; rw [← hM2]; simp at h6 ⊢; omega)
                    clear hM hM2 hL6 hrow HO1 HO2 HB C2 D0 D1 g0 g1 g2 f0 f1 f2 z1 z2 hb
                    have HB := Lib.hid hb7
                    have hrow := row7
                    have HO1 := Lib.hid o17
                    have HO2 := Lib.hid o27
                    clear hb7 row7 o17 o27
                    have hb := HB.out
                    have C2 := keep_cell hb c2
                    have D0 := keep_cell hb d0
                    have D1 := keep_cell hb d1
                    have z1 := keep_cell hb y1
                    have z2 := keep_cell hb y2
                    obtain ⟨⟨g0, g1, g2⟩, f0, f1, f2⟩ := row3 hrow
                    go_upto_region 18 with fail
                    have hM1 : (M ++ [(u1, u2)]).length = (M).length + 1 := by simp
                    have hL6 : (M).length ≤ 6 := by have h6 := hLk.out; simp at h6 ⊢; omega
                    have hdw : Below wv.heap.size wv wv.drew := below_drewN (Below.refl wv.heap.size wv) 1
                    have hbd := HB.out.trans (hdw.mono HB.out.size)
                    have rowd := heap_keep hdw hrow
                    have o1d := own_below HO1.out hdw
                    have o2d := own_below HO2.out hdw
                    refine wp_region_held_drew (S := fun w' => w'.cell? ⟨G, 2, none⟩ = some (.slice (some ⟨p1, o1, none⟩) nS cS) ∧ w'.cell? ⟨p1, o1 + k * 2, none⟩ = some (.int .i64 u1) ∧ w'.cell? ⟨p1, o1 + k * 2 + 1, none⟩ = some (.int .i64 u2)) (by kernel_rfl) ⟨keep_cell hbd c2, keep_cell hbd y1, keep_cell hbd y2⟩ (fun hHeld => ?_)
                    generalize wv.drew = wd at hbd rowd o1d o2d hHeld ⊢
                    clear hdw g0 g1 g2 f0 f1 f2 C2 D0 D1 z1 z2 hb
                    obtain ⟨⟨g0, g1, g2⟩, f0, f1, f2⟩ := row3 rowd
                    refine wpAnyH_take (i := 0) (v := .pointer (some ⟨g, 2, none⟩)) rfl (by kernel_rfl) (by kernel_rfl) (by kernel_rfl) (fun _ _ _ h => h) (Or.inl ⟨by rfl, fun w hSw => ?_⟩) (by assumption) ?_
                    · obtain ⟨s0, s1, s2⟩ := hSw
                      (go_simp <;> omega)
                    try simp only [List.getElem_toArray, List.getElem_cons_zero, Act.put, List.setIfInBounds_toArray, List.set_cons_zero, List.set_cons_succ]
                    refine wpAnyH_take (i := 2) (v := .pointer (some ⟨G, 2, none⟩)) rfl (by kernel_rfl) (by kernel_rfl) (by kernel_rfl) (fun _ _ _ h => h) (Or.inl ⟨by rfl, fun w hSw => ?_⟩) (by assumption) ?_
                    · obtain ⟨s0, s1, s2⟩ := hSw
                      (go_simp <;> omega)
                    try simp only [List.getElem_toArray, List.getElem_cons_zero, List.getElem_cons_succ, Act.put, List.setIfInBounds_toArray, List.set_cons_zero, List.set_cons_succ]
                    refine wpAnyH_take (i := 3) (v := .slice (some ⟨p1, o1, none⟩) nS cS) rfl (by kernel_rfl) (by kernel_rfl) (by kernel_rfl) (fun _ _ _ h => h) (Or.inl ⟨by rfl, fun w hSw => ?_⟩) (by assumption) ?_
                    · obtain ⟨s0, s1, s2⟩ := hSw
                      (go_simp <;> omega)
                    try simp only [List.getElem_toArray, List.getElem_cons_zero, List.getElem_cons_succ, Act.put, List.setIfInBounds_toArray, List.set_cons_zero, List.set_cons_succ]
                    refine wpAnyH_take (i := 4) (v := .int .i64 k) rfl (by kernel_rfl) (by kernel_rfl) (by kernel_rfl) (fun _ _ _ h => h) (Or.inl ⟨by rfl, fun w hSw => ?_⟩) (by assumption) ?_
                    · obtain ⟨s0, s1, s2⟩ := hSw
                      (go_simp <;> omega)
                    try simp only [List.getElem_toArray, List.getElem_cons_zero, List.getElem_cons_succ, Act.put, List.setIfInBounds_toArray, List.set_cons_zero, List.set_cons_succ]
                    refine wpAnyH_take (i := 5) (v := .pointer (some ⟨p1, o1 + k * 2, none⟩)) rfl (by kernel_rfl) (by kernel_rfl) (by kernel_rfl) (fun _ _ _ h => h) (Or.inl ⟨by rfl, fun w hSw => ?_⟩) (by assumption) ?_
                    · obtain ⟨s0, s1, s2⟩ := hSw
                      (go_simp <;> omega)
                    try simp only [List.getElem_toArray, List.getElem_cons_zero, List.getElem_cons_succ, Act.put, List.setIfInBounds_toArray, List.set_cons_zero, List.set_cons_succ]
                    refine wpAnyH_take (i := 6) (v := .agg #[.int .i64 u1, .int .i64 u2]) rfl (by kernel_rfl) (by kernel_rfl) (by kernel_rfl) (fun _ _ _ h => h) (Or.inl ⟨by rfl, fun w hSw => ?_⟩) (by assumption) ?_
                    · obtain ⟨s0, s1, s2⟩ := hSw
                      (go_simp <;> omega)
                    try simp only [List.getElem_toArray, List.getElem_cons_zero, List.getElem_cons_succ, Act.put, List.setIfInBounds_toArray, List.set_cons_zero, List.set_cons_succ]
                    have hal := (Below.refl wd.heap.size wd).alloc (Nat.le_refl _) (.cells #[.int .i64 u1, .int .i64 u2] 64)
                    have hba := hbd.alloc hbd.size (.cells #[.int .i64 u1, .int .i64 u2] 64)
                    have hnew := heap_alloc_new wd (.cells #[.int .i64 u1, .int .i64 u2] 64)
                    have rowa := heap_keep hal rowd
                    have o1a := o1d.alloc (.cells #[.int .i64 u1, .int .i64 u2] 64)
                    have o2a := o2d.alloc (.cells #[.int .i64 u1, .int .i64 u2] 64)
                    have hcb := hba.size
                    refine wpAnyH_ready (rs := [1, 7]) (by kernel_rfl) (by simp) ?_
                    refine AllReadyH.cons rfl (fun K hK => ?_) (AllReadyH.cons rfl (fun K hK => ?_) AllReadyH.nil)
                    · go_simp
                      (try dsimp only)
                      refine hK.out _ _ ⟨keep_cell hbd c2, keep_cell hbd y1, keep_cell hbd y2⟩ (fun hHeld => ?_)
                      clear hK K
                      try simp only [List.getElem_toArray, List.getElem_cons_zero, List.getElem_cons_succ, Act.put, List.setIfInBounds_toArray, List.set_cons_zero, List.set_cons_succ]
                      refine wpAnyH_ready (rs := [7]) (by kernel_rfl) (by simp) ?_
                      refine AllReadyH.cons rfl (fun K hK => ?_) AllReadyH.nil
                      go_simp
                      generalize wd.alloc (.cells #[.int .i64 u1, .int .i64 u2] 64) = wa at hal hba hnew rowa o1a o2a hcb ⊢
                      (try dsimp only)
                      refine hK.out _ _ ⟨keep_cell hba c2, keep_cell hba y1, keep_cell hba y2⟩ (fun hHeld => ?_)
                      clear hK K
                      try simp only [List.getElem_toArray, List.getElem_cons_zero, List.getElem_cons_succ, Act.put, List.setIfInBounds_toArray, List.set_cons_zero, List.set_cons_succ]
                      refine wpAnyH_ready (rs := [8]) (by kernel_rfl) (by simp) ?_
                      refine AllReadyH.cons rfl (fun K hK => ?_) AllReadyH.nil
                      refine step_append_lies _ (by rfl) _ _ _ (by rfl) w2.heap.size 64 i1 _ 2 16 Try.underlying23 hi1 hy0 hy1 hy2 rfl (by omega) _ (M).length _ (by rfl) o2a ⟨wd.heap.size, 0, none⟩ 1 1 [.int .i64 u1, .int .i64 u2] (by rfl) (by rfl) (World.news_of_block (cs := #[.int .i64 u1, .int .i64 u2]) (t := 64) (fr := (0, 0)) hnew) (by simp [Value.oneCell']) (by omega) (by unfold maxLen; omega) (by omega) hcb (wa.heap.size) rfl ?_
                      intro gg cap5 w6 hown6 hgrow hat hlt6
                      have hb6 := hba.grown hgrow hba.size (fun q hq => (o2a.lt _ hq).1)
                      have hoff : ∀ q, Value.ownBlock (.slice aoM (M).length capM) = some q → ∀ (t : TypeId), t ≠ 64 → ∀ cs fr, wa.heap[q]? ≠ some (.cells cs t fr) := fun q hq t ht cs fr h => by
                        obtain ⟨c, h2⟩ := own_row o2a q hq
                        rw [h] at h2
                        simp only [Option.some.injEq, Obj.cells.injEq] at h2
                        exact ht h2.2.1
                      have row6 := heap_grown rowa hgrow (fun q hq => hoff q hq _ (by decide))
                      have o16 := own_grown o1a hgrow (fun q hq => hoff q hq _ (by decide))
                      have o26 : w6.ownsRow w2.heap.size 64 2 (.slice (some ⟨gg, 0, none⟩) ((M).length + 1) cap5) ((M).length + 1) (flat2 (M ++ [(u1, u2)])) := by rw [flat2_app]; exact hown6
                      clear hown6 hgrow hat hoff rowa o1a o2a hnew
                      (try dsimp only)
                      refine hK.out _ _ ⟨keep_cell hb6 c2, keep_cell hb6 y1, keep_cell hb6 y2⟩ (fun hHeld => ?_)
                      clear hK K
                      try simp only [List.getElem_toArray, List.getElem_cons_zero, List.getElem_cons_succ, Act.put, List.setIfInBounds_toArray, List.set_cons_zero, List.set_cons_succ]
                      refine wpAnyH_take (i := 9) (v := .pointer (some ⟨g, 2, none⟩)) rfl (by kernel_rfl) (by kernel_rfl) (by kernel_rfl) (fun _ _ _ h => h) (Or.inl ⟨by rfl, fun w hSw => ?_⟩) (by assumption) ?_
                      · obtain ⟨s0, s1, s2⟩ := hSw
                        (go_simp <;> omega)
                      try simp only [List.getElem_toArray, List.getElem_cons_zero, List.getElem_cons_succ, Act.put, List.setIfInBounds_toArray, List.set_cons_zero, List.set_cons_succ]
                      clear g0 g1 g2 f0 f1 f2
                      obtain ⟨⟨g0, g1, g2⟩, f0, f1, f2⟩ := row3 row6
                      refine wpAnyH_ready (rs := [10]) (by kernel_rfl) (by simp) ?_
                      refine AllReadyH.cons rfl (fun K hK => ?_) AllReadyH.nil
                      go_simp
                      have hb7 := below_setCell (o := 2) hb6 h72 (.slice (some ⟨gg, 0, none⟩) ((M).length + 1) cap5)
                      have row7 := heap_setCell_same w6 g 2 _ _ (.slice (some ⟨gg, 0, none⟩) ((M).length + 1) cap5) row6
                      have o17 := own_set_type (o := 2) (u := .slice (some ⟨gg, 0, none⟩) ((M).length + 1) cap5) o16 row6 (by decide)
                      have o27 := own_set_type (o := 2) (u := .slice (some ⟨gg, 0, none⟩) ((M).length + 1) cap5) o26 row6 (by decide)
                      simp at row7
                      generalize w6.setCell ⟨g, 2, none⟩ (.slice (some ⟨gg, 0, none⟩) ((M).length + 1) cap5) = w7 at hb7 row7 o17 o27 ⊢
                      (try dsimp only)
                      refine hK.out _ _ ⟨keep_cell hb7 c2, keep_cell hb7 y1, keep_cell hb7 y2⟩ (fun hHeld => ?_)
                      clear hK K
                      try simp only [List.getElem_toArray, List.getElem_cons_zero, List.getElem_cons_succ, Act.put, List.setIfInBounds_toArray, List.set_cons_zero, List.set_cons_succ]
                      refine wpAnyH_done (by kernel_rfl) ?_ _
                      clear g0 g1 g2 f0 f1 f2
                      go_wp2_with fail
                      go_roundw
                      case rel => exact ⟨k + 1, true, M ++ [(u1, u2)], some ⟨gg, 0, none⟩, cap5, by omega, by go_num, rfl, Lib.hid (by have h6 := hLk.out; simp at h6 ⊢; omega), hins2, hR4, Lib.hid hb7, by rw [hM1]; exact row7, Lib.hid o17, Lib.hid (by rw [hM1]; exact o27)⟩
                      case measure => simp [intOf]; omega
                    · go_simp
                      generalize wd.alloc (.cells #[.int .i64 u1, .int .i64 u2] 64) = wa at hal hba hnew rowa o1a o2a hcb ⊢
                      (try dsimp only)
                      refine hK.out _ _ ⟨keep_cell hba c2, keep_cell hba y1, keep_cell hba y2⟩ (fun hHeld => ?_)
                      clear hK K
                      try simp only [List.getElem_toArray, List.getElem_cons_zero, List.getElem_cons_succ, Act.put, List.setIfInBounds_toArray, List.set_cons_zero, List.set_cons_succ]
                      clear g0 g1 g2 f0 f1 f2
                      obtain ⟨⟨g0, g1, g2⟩, f0, f1, f2⟩ := row3 rowa
                      refine wpAnyH_ready (rs := [1]) (by kernel_rfl) (by simp) ?_
                      refine AllReadyH.cons rfl (fun K hK => ?_) AllReadyH.nil
                      go_simp
                      (try dsimp only)
                      refine hK.out _ _ ⟨keep_cell hba c2, keep_cell hba y1, keep_cell hba y2⟩ (fun hHeld => ?_)
                      clear hK K
                      try simp only [List.getElem_toArray, List.getElem_cons_zero, List.getElem_cons_succ, Act.put, List.setIfInBounds_toArray, List.set_cons_zero, List.set_cons_succ]
                      refine wpAnyH_ready (rs := [8]) (by kernel_rfl) (by simp) ?_
                      refine AllReadyH.cons rfl (fun K hK => ?_) AllReadyH.nil
                      refine step_append_lies _ (by rfl) _ _ _ (by rfl) w2.heap.size 64 i1 _ 2 16 Try.underlying23 hi1 hy0 hy1 hy2 rfl (by omega) _ (M).length _ (by rfl) o2a ⟨wd.heap.size, 0, none⟩ 1 1 [.int .i64 u1, .int .i64 u2] (by rfl) (by rfl) (World.news_of_block (cs := #[.int .i64 u1, .int .i64 u2]) (t := 64) (fr := (0, 0)) hnew) (by simp [Value.oneCell']) (by omega) (by unfold maxLen; omega) (by omega) hcb (wa.heap.size) rfl ?_
                      intro gg cap5 w6 hown6 hgrow hat hlt6
                      have hb6 := hba.grown hgrow hba.size (fun q hq => (o2a.lt _ hq).1)
                      have hoff : ∀ q, Value.ownBlock (.slice aoM (M).length capM) = some q → ∀ (t : TypeId), t ≠ 64 → ∀ cs fr, wa.heap[q]? ≠ some (.cells cs t fr) := fun q hq t ht cs fr h => by
                        obtain ⟨c, h2⟩ := own_row o2a q hq
                        rw [h] at h2
                        simp only [Option.some.injEq, Obj.cells.injEq] at h2
                        exact ht h2.2.1
                      have row6 := heap_grown rowa hgrow (fun q hq => hoff q hq _ (by decide))
                      have o16 := own_grown o1a hgrow (fun q hq => hoff q hq _ (by decide))
                      have o26 : w6.ownsRow w2.heap.size 64 2 (.slice (some ⟨gg, 0, none⟩) ((M).length + 1) cap5) ((M).length + 1) (flat2 (M ++ [(u1, u2)])) := by rw [flat2_app]; exact hown6
                      clear hown6 hgrow hat hoff rowa o1a o2a hnew
                      (try dsimp only)
                      refine hK.out _ _ ⟨keep_cell hb6 c2, keep_cell hb6 y1, keep_cell hb6 y2⟩ (fun hHeld => ?_)
                      clear hK K
                      try simp only [List.getElem_toArray, List.getElem_cons_zero, List.getElem_cons_succ, Act.put, List.setIfInBounds_toArray, List.set_cons_zero, List.set_cons_succ]
                      refine wpAnyH_take (i := 9) (v := .pointer (some ⟨g, 2, none⟩)) rfl (by kernel_rfl) (by kernel_rfl) (by kernel_rfl) (fun _ _ _ h => h) (Or.inl ⟨by rfl, fun w hSw => ?_⟩) (by assumption) ?_
                      · obtain ⟨s0, s1, s2⟩ := hSw
                        (go_simp <;> omega)
                      try simp only [List.getElem_toArray, List.getElem_cons_zero, List.getElem_cons_succ, Act.put, List.setIfInBounds_toArray, List.set_cons_zero, List.set_cons_succ]
                      clear g0 g1 g2 f0 f1 f2
                      obtain ⟨⟨g0, g1, g2⟩, f0, f1, f2⟩ := row3 row6
                      refine wpAnyH_ready (rs := [10]) (by kernel_rfl) (by simp) ?_
                      refine AllReadyH.cons rfl (fun K hK => ?_) AllReadyH.nil
                      go_simp
                      have hb7 := below_setCell (o := 2) hb6 h72 (.slice (some ⟨gg, 0, none⟩) ((M).length + 1) cap5)
                      have row7 := heap_setCell_same w6 g 2 _ _ (.slice (some ⟨gg, 0, none⟩) ((M).length + 1) cap5) row6
                      have o17 := own_set_type (o := 2) (u := .slice (some ⟨gg, 0, none⟩) ((M).length + 1) cap5) o16 row6 (by decide)
                      have o27 := own_set_type (o := 2) (u := .slice (some ⟨gg, 0, none⟩) ((M).length + 1) cap5) o26 row6 (by decide)
                      simp at row7
                      generalize w6.setCell ⟨g, 2, none⟩ (.slice (some ⟨gg, 0, none⟩) ((M).length + 1) cap5) = w7 at hb7 row7 o17 o27 ⊢
                      (try dsimp only)
                      refine hK.out _ _ ⟨keep_cell hb7 c2, keep_cell hb7 y1, keep_cell hb7 y2⟩ (fun hHeld => ?_)
                      clear hK K
                      try simp only [List.getElem_toArray, List.getElem_cons_zero, List.getElem_cons_succ, Act.put, List.setIfInBounds_toArray, List.set_cons_zero, List.set_cons_succ]
                      refine wpAnyH_done (by kernel_rfl) ?_ _
                      clear g0 g1 g2 f0 f1 f2
                      go_wp2_with fail
                      go_roundw
                      case rel => exact ⟨k + 1, true, M ++ [(u1, u2)], some ⟨gg, 0, none⟩, cap5, by omega, by go_num, rfl, Lib.hid (by have h6 := hLk.out; simp at h6 ⊢; omega), hins2, hR4, Lib.hid hb7, by rw [hM1]; exact row7, Lib.hid o17, Lib.hid (by rw [hM1]; exact o27)⟩
                      case measure => simp [intOf]; omega
                  · have i9 : decide (x < u1) = false := decide_eq_false hxu
                    have hins2 : Hid (Tm.ins x y S (k + 1) = (L ++ [(u1, u2)], false)) := Lib.hid (by rw [hins.out, i9]; rfl)
                    clear hins hxu
                    go_quiet (fail)
                    have hdn : Below wq.heap.size wq (wq.drewN nq) := below_drewN (Below.refl _ _) _
                    replace HB := Lib.hid (HB.out.trans (hdn.mono HB.out.size))
                    replace hrow := heap_keep hdn hrow
                    replace HO1 := Lib.hid (own_below HO1.out hdn)
                    replace HO2 := Lib.hid (own_below HO2.out hdn)
                    clear C2 D0 D1 g0 g1 g2 f0 f1 f2 z1 z2 hb
                    generalize wq.drewN nq = ws at HB hrow HO1 HO2 ⊢
                    clear hdn
                    have hb := HB.out
                    have C2 := keep_cell hb c2
                    have D0 := keep_cell hb d0
                    have D1 := keep_cell hb d1
                    have z1 := keep_cell hb y1
                    have z2 := keep_cell hb y2
                    obtain ⟨⟨g0, g1, g2⟩, f0, f1, f2⟩ := row3 hrow
                    obtain ⟨aoM, haM⟩ : ∃ a, a = aoL := ⟨_, rfl⟩
                    obtain ⟨capM, hcM⟩ : ∃ a, a = capL := ⟨_, rfl⟩
                    rw [← haM, ← hcM] at hrow HO2 g2
                    clear haM hcM
                    go_upto_region 18 with fail
                    have hM1 : (L ++ [(u1, u2)]).length = (L).length + 1 := by simp
                    have hL6 : (L).length ≤ 6 := by have h6 := hLk.out; simp at h6 ⊢; omega
                    have hdw : Below ws.heap.size ws ws.drew := below_drewN (Below.refl ws.heap.size ws) 1
                    have hbd := HB.out.trans (hdw.mono HB.out.size)
                    have rowd := heap_keep hdw hrow
                    have o1d := own_below HO1.out hdw
                    have o2d := own_below HO2.out hdw
                    refine wp_region_held_drew (S := fun w' => w'.cell? ⟨G, 2, none⟩ = some (.slice (some ⟨p1, o1, none⟩) nS cS) ∧ w'.cell? ⟨p1, o1 + k * 2, none⟩ = some (.int .i64 u1) ∧ w'.cell? ⟨p1, o1 + k * 2 + 1, none⟩ = some (.int .i64 u2)) (by kernel_rfl) ⟨keep_cell hbd c2, keep_cell hbd y1, keep_cell hbd y2⟩ (fun hHeld => ?_)
                    generalize ws.drew = wd at hbd rowd o1d o2d hHeld ⊢
                    clear hdw g0 g1 g2 f0 f1 f2 C2 D0 D1 z1 z2 hb
                    obtain ⟨⟨g0, g1, g2⟩, f0, f1, f2⟩ := row3 rowd
                    refine wpAnyH_take (i := 0) (v := .pointer (some ⟨g, 2, none⟩)) rfl (by kernel_rfl) (by kernel_rfl) (by kernel_rfl) (fun _ _ _ h => h) (Or.inl ⟨by rfl, fun w hSw => ?_⟩) (by assumption) ?_
                    · obtain ⟨s0, s1, s2⟩ := hSw
                      (go_simp <;> omega)
                    try simp only [List.getElem_toArray, List.getElem_cons_zero, Act.put, List.setIfInBounds_toArray, List.set_cons_zero, List.set_cons_succ]
                    refine wpAnyH_take (i := 2) (v := .pointer (some ⟨G, 2, none⟩)) rfl (by kernel_rfl) (by kernel_rfl) (by kernel_rfl) (fun _ _ _ h => h) (Or.inl ⟨by rfl, fun w hSw => ?_⟩) (by assumption) ?_
                    · obtain ⟨s0, s1, s2⟩ := hSw
                      (go_simp <;> omega)
                    try simp only [List.getElem_toArray, List.getElem_cons_zero, List.getElem_cons_succ, Act.put, List.setIfInBounds_toArray, List.set_cons_zero, List.set_cons_succ]
                    refine wpAnyH_take (i := 3) (v := .slice (some ⟨p1, o1, none⟩) nS cS) rfl (by kernel_rfl) (by kernel_rfl) (by kernel_rfl) (fun _ _ _ h => h) (Or.inl ⟨by rfl, fun w hSw => ?_⟩) (by assumption) ?_
                    · obtain ⟨s0, s1, s2⟩ := hSw
                      (go_simp <;> omega)
                    try simp only [List.getElem_toArray, List.getElem_cons_zero, List.getElem_cons_succ, Act.put, List.setIfInBounds_toArray, List.set_cons_zero, List.set_cons_succ]
                    refine wpAnyH_take (i := 4) (v := .int .i64 k) rfl (by kernel_rfl) (by kernel_rfl) (by kernel_rfl) (fun _ _ _ h => h) (Or.inl ⟨by rfl, fun w hSw => ?_⟩) (by assumption) ?_
                    · obtain ⟨s0, s1, s2⟩ := hSw
                      (go_simp <;> omega)
                    try simp only [List.getElem_toArray, List.getElem_cons_zero, List.getElem_cons_succ, Act.put, List.setIfInBounds_toArray, List.set_cons_zero, List.set_cons_succ]
                    refine wpAnyH_take (i := 5) (v := .pointer (some ⟨p1, o1 + k * 2, none⟩)) rfl (by kernel_rfl) (by kernel_rfl) (by kernel_rfl) (fun _ _ _ h => h) (Or.inl ⟨by rfl, fun w hSw => ?_⟩) (by assumption) ?_
                    · obtain ⟨s0, s1, s2⟩ := hSw
                      (go_simp <;> omega)
                    try simp only [List.getElem_toArray, List.getElem_cons_zero, List.getElem_cons_succ, Act.put, List.setIfInBounds_toArray, List.set_cons_zero, List.set_cons_succ]
                    refine wpAnyH_take (i := 6) (v := .agg #[.int .i64 u1, .int .i64 u2]) rfl (by kernel_rfl) (by kernel_rfl) (by kernel_rfl) (fun _ _ _ h => h) (Or.inl ⟨by rfl, fun w hSw => ?_⟩) (by assumption) ?_
                    · obtain ⟨s0, s1, s2⟩ := hSw
                      (go_simp <;> omega)
                    try simp only [List.getElem_toArray, List.getElem_cons_zero, List.getElem_cons_succ, Act.put, List.setIfInBounds_toArray, List.set_cons_zero, List.set_cons_succ]
                    have hal := (Below.refl wd.heap.size wd).alloc (Nat.le_refl _) (.cells #[.int .i64 u1, .int .i64 u2] 64)
                    have hba := hbd.alloc hbd.size (.cells #[.int .i64 u1, .int .i64 u2] 64)
                    have hnew := heap_alloc_new wd (.cells #[.int .i64 u1, .int .i64 u2] 64)
                    have rowa := heap_keep hal rowd
                    have o1a := o1d.alloc (.cells #[.int .i64 u1, .int .i64 u2] 64)
                    have o2a := o2d.alloc (.cells #[.int .i64 u1, .int .i64 u2] 64)
                    have hcb := hba.size
                    refine wpAnyH_ready (rs := [1, 7]) (by kernel_rfl) (by simp) ?_
                    refine AllReadyH.cons rfl (fun K hK => ?_) (AllReadyH.cons rfl (fun K hK => ?_) AllReadyH.nil)
                    · go_simp
                      (try dsimp only)
                      refine hK.out _ _ ⟨keep_cell hbd c2, keep_cell hbd y1, keep_cell hbd y2⟩ (fun hHeld => ?_)
                      clear hK K
                      try simp only [List.getElem_toArray, List.getElem_cons_zero, List.getElem_cons_succ, Act.put, List.setIfInBounds_toArray, List.set_cons_zero, List.set_cons_succ]
                      refine wpAnyH_ready (rs := [7]) (by kernel_rfl) (by simp) ?_
                      refine AllReadyH.cons rfl (fun K hK => ?_) AllReadyH.nil
                      go_simp
                      generalize wd.alloc (.cells #[.int .i64 u1, .int .i64 u2] 64) = wa at hal hba hnew rowa o1a o2a hcb ⊢
                      (try dsimp only)
                      refine hK.out _ _ ⟨keep_cell hba c2, keep_cell hba y1, keep_cell hba y2⟩ (fun hHeld => ?_)
                      clear hK K
                      try simp only [List.getElem_toArray, List.getElem_cons_zero, List.getElem_cons_succ, Act.put, List.setIfInBounds_toArray, List.set_cons_zero, List.set_cons_succ]
                      refine wpAnyH_ready (rs := [8]) (by kernel_rfl) (by simp) ?_
                      refine AllReadyH.cons rfl (fun K hK => ?_) AllReadyH.nil
                      refine step_append_lies _ (by rfl) _ _ _ (by rfl) w2.heap.size 64 i1 _ 2 16 Try.underlying23 hi1 hy0 hy1 hy2 rfl (by omega) _ (L).length _ (by rfl) o2a ⟨wd.heap.size, 0, none⟩ 1 1 [.int .i64 u1, .int .i64 u2] (by rfl) (by rfl) (World.news_of_block (cs := #[.int .i64 u1, .int .i64 u2]) (t := 64) (fr := (0, 0)) hnew) (by simp [Value.oneCell']) (by omega) (by unfold maxLen; omega) (by omega) hcb (wa.heap.size) rfl ?_
                      intro gg cap5 w6 hown6 hgrow hat hlt6
                      have hb6 := hba.grown hgrow hba.size (fun q hq => (o2a.lt _ hq).1)
                      have hoff : ∀ q, Value.ownBlock (.slice aoM (L).length capM) = some q → ∀ (t : TypeId), t ≠ 64 → ∀ cs fr, wa.heap[q]? ≠ some (.cells cs t fr) := fun q hq t ht cs fr h => by
                        obtain ⟨c, h2⟩ := own_row o2a q hq
                        rw [h] at h2
                        simp only [Option.some.injEq, Obj.cells.injEq] at h2
                        exact ht h2.2.1
                      have row6 := heap_grown rowa hgrow (fun q hq => hoff q hq _ (by decide))
                      have o16 := own_grown o1a hgrow (fun q hq => hoff q hq _ (by decide))
                      have o26 : w6.ownsRow w2.heap.size 64 2 (.slice (some ⟨gg, 0, none⟩) ((L).length + 1) cap5) ((L).length + 1) (flat2 (L ++ [(u1, u2)])) := by rw [flat2_app]; exact hown6
                      clear hown6 hgrow hat hoff rowa o1a o2a hnew
                      (try dsimp only)
                      refine hK.out _ _ ⟨keep_cell hb6 c2, keep_cell hb6 y1, keep_cell hb6 y2⟩ (fun hHeld => ?_)
                      clear hK K
                      try simp only [List.getElem_toArray, List.getElem_cons_zero, List.getElem_cons_succ, Act.put, List.setIfInBounds_toArray, List.set_cons_zero, List.set_cons_succ]
                      refine wpAnyH_take (i := 9) (v := .pointer (some ⟨g, 2, none⟩)) rfl (by kernel_rfl) (by kernel_rfl) (by kernel_rfl) (fun _ _ _ h => h) (Or.inl ⟨by rfl, fun w hSw => ?_⟩) (by assumption) ?_
                      · obtain ⟨s0, s1, s2⟩ := hSw
                        (go_simp <;> omega)
                      try simp only [List.getElem_toArray, List.getElem_cons_zero, List.getElem_cons_succ, Act.put, List.setIfInBounds_toArray, List.set_cons_zero, List.set_cons_succ]
                      clear g0 g1 g2 f0 f1 f2
                      obtain ⟨⟨g0, g1, g2⟩, f0, f1, f2⟩ := row3 row6
                      refine wpAnyH_ready (rs := [10]) (by kernel_rfl) (by simp) ?_
                      refine AllReadyH.cons rfl (fun K hK => ?_) AllReadyH.nil
                      go_simp
                      have hb7 := below_setCell (o := 2) hb6 h72 (.slice (some ⟨gg, 0, none⟩) ((L).length + 1) cap5)
                      have row7 := heap_setCell_same w6 g 2 _ _ (.slice (some ⟨gg, 0, none⟩) ((L).length + 1) cap5) row6
                      have o17 := own_set_type (o := 2) (u := .slice (some ⟨gg, 0, none⟩) ((L).length + 1) cap5) o16 row6 (by decide)
                      have o27 := own_set_type (o := 2) (u := .slice (some ⟨gg, 0, none⟩) ((L).length + 1) cap5) o26 row6 (by decide)
                      simp at row7
                      generalize w6.setCell ⟨g, 2, none⟩ (.slice (some ⟨gg, 0, none⟩) ((L).length + 1) cap5) = w7 at hb7 row7 o17 o27 ⊢
                      (try dsimp only)
                      refine hK.out _ _ ⟨keep_cell hb7 c2, keep_cell hb7 y1, keep_cell hb7 y2⟩ (fun hHeld => ?_)
                      clear hK K
                      try simp only [List.getElem_toArray, List.getElem_cons_zero, List.getElem_cons_succ, Act.put, List.setIfInBounds_toArray, List.set_cons_zero, List.set_cons_succ]
                      refine wpAnyH_done (by kernel_rfl) ?_ _
                      clear g0 g1 g2 f0 f1 f2
                      go_wp2_with fail
                      go_roundw
                      case rel => exact ⟨k + 1, false, L ++ [(u1, u2)], some ⟨gg, 0, none⟩, cap5, by omega, by go_num, rfl, Lib.hid (by have h6 := hLk.out; simp at h6 ⊢; omega), hins2, hR4, Lib.hid hb7, by rw [hM1]; exact row7, Lib.hid o17, Lib.hid (by rw [hM1]; exact o27)⟩
                      case measure => simp [intOf]; omega
                    · go_simp
                      generalize wd.alloc (.cells #[.int .i64 u1, .int .i64 u2] 64) = wa at hal hba hnew rowa o1a o2a hcb ⊢
                      (try dsimp only)
                      refine hK.out _ _ ⟨keep_cell hba c2, keep_cell hba y1, keep_cell hba y2⟩ (fun hHeld => ?_)
                      clear hK K
                      try simp only [List.getElem_toArray, List.getElem_cons_zero, List.getElem_cons_succ, Act.put, List.setIfInBounds_toArray, List.set_cons_zero, List.set_cons_succ]
                      clear g0 g1 g2 f0 f1 f2
                      obtain ⟨⟨g0, g1, g2⟩, f0, f1, f2⟩ := row3 rowa
                      refine wpAnyH_ready (rs := [1]) (by kernel_rfl) (by simp) ?_
                      refine AllReadyH.cons rfl (fun K hK => ?_) AllReadyH.nil
                      go_simp
                      (try dsimp only)
                      refine hK.out _ _ ⟨keep_cell hba c2, keep_cell hba y1, keep_cell hba y2⟩ (fun hHeld => ?_)
                      clear hK K
                      try simp only [List.getElem_toArray, List.getElem_cons_zero, List.getElem_cons_succ, Act.put, List.setIfInBounds_toArray, List.set_cons_zero, List.set_cons_succ]
                      refine wpAnyH_ready (rs := [8]) (by kernel_rfl) (by simp) ?_
                      refine AllReadyH.cons rfl (fun K hK => ?_) AllReadyH.nil
                      refine step_append_lies _ (by rfl) _ _ _ (by rfl) w2.heap.size 64 i1 _ 2 16 Try.underlying23 hi1 hy0 hy1 hy2 rfl (by omega) _ (L).length _ (by rfl) o2a ⟨wd.heap.size, 0, none⟩ 1 1 [.int .i64 u1, .int .i64 u2] (by rfl) (by rfl) (World.news_of_block (cs := #[.int .i64 u1, .int .i64 u2]) (t := 64) (fr := (0, 0)) hnew) (by simp [Value.oneCell']) (by omega) (by unfold maxLen; omega) (by omega) hcb (wa.heap.size) rfl ?_
                      intro gg cap5 w6 hown6 hgrow hat hlt6
                      have hb6 := hba.grown hgrow hba.size (fun q hq => (o2a.lt _ hq).1)
                      have hoff : ∀ q, Value.ownBlock (.slice aoM (L).length capM) = some q → ∀ (t : TypeId), t ≠ 64 → ∀ cs fr, wa.heap[q]? ≠ some (.cells cs t fr) := fun q hq t ht cs fr h => by
                        obtain ⟨c, h2⟩ := own_row o2a q hq
                        rw [h] at h2
                        simp only [Option.some.injEq, Obj.cells.injEq] at h2
                        exact ht h2.2.1
                      have row6 := heap_grown rowa hgrow (fun q hq => hoff q hq _ (by decide))
                      have o16 := own_grown o1a hgrow (fun q hq => hoff q hq _ (by decide))
                      have o26 : w6.ownsRow w2.heap.size 64 2 (.slice (some ⟨gg, 0, none⟩) ((L).length + 1) cap5) ((L).length + 1) (flat2 (L ++ [(u1, u2)])) := by rw [flat2_app]; exact hown6
                      clear hown6 hgrow hat hoff rowa o1a o2a hnew
                      (try dsimp only)
                      refine hK.out _ _ ⟨keep_cell hb6 c2, keep_cell hb6 y1, keep_cell hb6 y2⟩ (fun hHeld => ?_)
                      clear hK K
                      try simp only [List.getElem_toArray, List.getElem_cons_zero, List.getElem_cons_succ, Act.put, List.setIfInBounds_toArray, List.set_cons_zero, List.set_cons_succ]
                      refine wpAnyH_take (i := 9) (v := .pointer (some ⟨g, 2, none⟩)) rfl (by kernel_rfl) (by kernel_rfl) (by kernel_rfl) (fun _ _ _ h => h) (Or.inl ⟨by rfl, fun w hSw => ?_⟩) (by assumption) ?_
                      · obtain ⟨s0, s1, s2⟩ := hSw
                        (go_simp <;> omega)
                      try simp only [List.getElem_toArray, List.getElem_cons_zero, List.getElem_cons_succ, Act.put, List.setIfInBounds_toArray, List.set_cons_zero, List.set_cons_succ]
                      clear g0 g1 g2 f0 f1 f2
                      obtain ⟨⟨g0, g1, g2⟩, f0, f1, f2⟩ := row3 row6
                      refine wpAnyH_ready (rs := [10]) (by kernel_rfl) (by simp) ?_
                      refine AllReadyH.cons rfl (fun K hK => ?_) AllReadyH.nil
                      go_simp
                      have hb7 := below_setCell (o := 2) hb6 h72 (.slice (some ⟨gg, 0, none⟩) ((L).length + 1) cap5)
                      have row7 := heap_setCell_same w6 g 2 _ _ (.slice (some ⟨gg, 0, none⟩) ((L).length + 1) cap5) row6
                      have o17 := own_set_type (o := 2) (u := .slice (some ⟨gg, 0, none⟩) ((L).length + 1) cap5) o16 row6 (by decide)
                      have o27 := own_set_type (o := 2) (u := .slice (some ⟨gg, 0, none⟩) ((L).length + 1) cap5) o26 row6 (by decide)
                      simp at row7
                      generalize w6.setCell ⟨g, 2, none⟩ (.slice (some ⟨gg, 0, none⟩) ((L).length + 1) cap5) = w7 at hb7 row7 o17 o27 ⊢
                      (try dsimp only)
                      refine hK.out _ _ ⟨keep_cell hb7 c2, keep_cell hb7 y1, keep_cell hb7 y2⟩ (fun hHeld => ?_)
                      clear hK K
                      try simp only [List.getElem_toArray, List.getElem_cons_zero, List.getElem_cons_succ, Act.put, List.setIfInBounds_toArray, List.set_cons_zero, List.set_cons_succ]
                      refine wpAnyH_done (by kernel_rfl) ?_ _
                      clear g0 g1 g2 f0 f1 f2
                      go_wp2_with fail
                      go_roundw
                      case rel => exact ⟨k + 1, false, L ++ [(u1, u2)], some ⟨gg, 0, none⟩, cap5, by omega, by go_num, rfl, Lib.hid (by have h6 := hLk.out; simp at h6 ⊢; omega), hins2, hR4, Lib.hid hb7, by rw [hM1]; exact row7, Lib.hid o17, Lib.hid (by rw [hM1]; exact o27)⟩
                      case measure => simp [intOf]; omega
            · have i4 : ¬ (k : Int) < (nS : Int) := by omega
              have hkl : k = S.length := by have := HNS.out; omega
              have hr : Hid (R = 0) := Lib.hid (by rw [HR3.out, hkl, List.drop_length]; rfl)
              have hrr := heap_keep hb rr
              obtain ⟨⟨s0, s1, s2⟩, t0, t1, t2⟩ := row3 hrr
              have hlt2 : G + 1 + 1 < w2.heap.size := heap_lt rr
              have hGw : w.heap.size ≤ G + 1 + 1 := by have := HG.out; omega
              have hA6 := hA.trans (hb.mono hA.size)
              have hAs := hA.size
              cases b with
              | true =>
                have hq : Hid (Tm.WR f F S x y f F L) := Lib.hid (by
                  have h5 := Tm.fin_ok (hr.out.symm.trans HR.out).symm (Tm.firsts hz3.out)
                  have h6 := HK.out
                  rw [hkl] at h6
                  unfold Tm.fin at h5
                  rw [h6] at h5
                  exact h5)
                clear hb HR3 HK
                go_wp2_with fail
                have o1 := own_mono (base' := w.heap.size) (own_set_other (g := G + 1 + 1) (o := 2) (u := .slice aoL L.length capL) (own_set_other (g := G + 1 + 1) (o := 1) (u := .slice aoN nF capN) (own_set_other (g := G + 1 + 1) (o := 0) (u := .int .i64 f) HO1.out hlt2) hlt2) hlt2) hAs
                have o2 := own_mono (base' := w.heap.size) (own_set_other (g := G + 1 + 1) (o := 2) (u := .slice aoL L.length capL) (own_set_other (g := G + 1 + 1) (o := 1) (u := .slice aoN nF capN) (own_set_other (g := G + 1 + 1) (o := 0) (u := .int .i64 f) HO2.out hlt2) hlt2) hlt2) hAs
                refine bodyPost_ret (results_cell_tmp rfl _ _ _ _ _ _ _ rfl (three_cells hrr _ _ _) Try.underlying25 rfl infoCal3) rfl ⟨?_, below_setCell (below_setCell (below_setCell hA6 hGw _) hGw _) hGw _⟩
                exact ⟨f, .slice aoN F.length capN, .slice aoL L.length capL, (by rw [hr.out, HNF.out]; rfl), F, L, hq.out, (by rw [← HNF.out]; exact o1), o2⟩
              | false =>
                have hL6 : L.length ≤ 5 := by have h6 := hLk.out; simp at h6; omega
                have hq : Hid (Tm.WR f F S x y f F (L ++ [(x, y)])) := Lib.hid (by
                  have h5 := Tm.fin_ok (hr.out.symm.trans HR.out).symm (Tm.firsts hz3.out)
                  have h6 := HK.out
                  rw [hkl] at h6
                  unfold Tm.fin at h5
                  rw [h6] at h5
                  exact h5)
                have hM2 : (L ++ [(x, y)]).length = L.length + 1 := by simp
                clear HR3 HK s0 s1 s2 t0 t1 t2 hrr hA6 hb
                have hcs := HB.out.size
                go_upto_region 21 with (first | (at_builtin; refine wpList_append_own _ rfl _ _ 23 rfl w2.heap.size 64 i1 (.agg #[.int .i64 0, .int .i64 0]) 2 16 Try.underlying23 hi1 hy0 hy1 hy2 rfl (by decide) _ L.length _ rfl (HO2.out.alloc _) ⟨wr.heap.size, 0, none⟩ 1 1 [.int .i64 x, .int .i64 y] rfl rfl (World.news_of_block (cs := #[.int .i64 x, .int .i64 y]) (t := 64) (fr := (0, 0)) (heap_alloc_new wr _)) (by simp [Value.oneCell']) (by unfold maxLen; omega) (by omega) (by simp; omega) ?_; intro v6 w6 hown6 hgrow6 hnil6; obtain ⟨aoM, capM, rfl, hb6, row6, o16, o26⟩ := appended hi1 HB.out hrow HO1.out HO2.out hown6 hgrow6; clear hown6 hgrow6 hnil6; have r6 := row3 row6; obtain ⟨⟨n0, n1, n2⟩, m0, m1, m2⟩ := r6))
                have hb7 := below_setCell (o := 2) hb6 h72 (.slice aoM (L.length + 1) capM)
                have row7 := heap_setCell_same w6 g 2 _ _ (.slice aoM (L.length + 1) capM) row6
                have o17 := own_set_type (o := 2) (u := .slice aoM (L.length + 1) capM) o16 row6 (by decide)
                have o27 := own_set_type (o := 2) (u := .slice aoM (L.length + 1) capM) o26 row6 (by decide)
                simp at row7
                clear n0 n1 n2 m0 m1 m2 hb6 row6 o16 o26 hcs
                generalize w6.setCell ⟨g, 2, none⟩ (.slice aoM (L.length + 1) capM) = wv at hb7 row7 o17 o27 ⊢
                have hrr := heap_keep hb7 rr
                obtain ⟨⟨s0, s1, s2⟩, t0, t1, t2⟩ := row3 hrr
                obtain ⟨⟨g0, g1, g2⟩, f0, f1, f2⟩ := row3 row7
                have hA6 := hA.trans (hb7.mono hA.size)
                go_wp2_with fail
                have o1 := own_mono (base' := w.heap.size) (own_set_other (g := G + 1 + 1) (o := 2) (u := .slice aoM (L.length + 1) capM) (own_set_other (g := G + 1 + 1) (o := 1) (u := .slice aoN nF capN) (own_set_other (g := G + 1 + 1) (o := 0) (u := .int .i64 f) o17 hlt2) hlt2) hlt2) hAs
                have o2 := own_mono (base' := w.heap.size) (own_set_other (g := G + 1 + 1) (o := 2) (u := .slice aoM (L.length + 1) capM) (own_set_other (g := G + 1 + 1) (o := 1) (u := .slice aoN nF capN) (own_set_other (g := G + 1 + 1) (o := 0) (u := .int .i64 f) o27 hlt2) hlt2) hlt2) hAs
                refine bodyPost_ret (results_cell_tmp rfl _ _ _ _ _ _ _ rfl (three_cells hrr _ _ _) Try.underlying25 rfl infoCal3) rfl ⟨?_, below_setCell (below_setCell (below_setCell hA6 hGw _) hGw _) hGw _⟩
                exact ⟨f, .slice aoN F.length capN, .slice aoM (L ++ [(x, y)]).length capM, (by rw [hr.out, HNF.out, hM2]; rfl), F, L ++ [(x, y)], hq.out, (by rw [← HNF.out]; exact o1), (by rw [hM2]; exact o2)⟩
  · have hne : (C != 0) = true := by simp [hz]
    have hr : Hid (R = C) := Lib.hid (by rw [HR.out, HC.out]; unfold Tm.wcode; rw [if_pos (by rw [← HC.out]; exact hz)])
    have hq : Hid (Tm.WR f F S x y 0 [] []) := Lib.hid (.inl ⟨by rw [← HR.out, hr.out]; exact hz, rfl, rfl, rfl⟩)
    have hGw : w.heap.size ≤ G + 1 + 1 := by have := HG.out; omega
    obtain ⟨⟨s0, s1, s2⟩, t0, t1, t2⟩ := row3 rr
    go_wp2_with fail
    exact bodyPost_ret (results_cell_tmp rfl _ _ _ _ _ _ _ rfl (three_cells rr _ _ _) Try.underlying25 rfl infoCal3) rfl ⟨⟨0, _, _, [], [], by rw [hr.out]; rfl, hq.out, own_nil _ _ _ _, own_nil _ _ _ _⟩, below_setCell (below_setCell (below_setCell hA hGw _) hGw _) hGw _⟩
end Go.Proofs.Ytmdkdkiejcjmaaa
