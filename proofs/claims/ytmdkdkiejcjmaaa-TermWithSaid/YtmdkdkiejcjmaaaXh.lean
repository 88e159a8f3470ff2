import Derived.Test.YtmdkdkiejcjmaaaXf
import Derived.Test.YtmdkdkiejcjmaaaXi
import Derived.Test.YtmdkdkiejcjmaaaXj
import Derived.Test.YtmdkdkiejcjmaaaXd
import Derived.Test.YtmdkdkiejcjmaaaSl
/- The law TermWith (begun: through region 3). -/
namespace Go.Proofs.Ytmdkdkiejcjmaaa
open Go.Joins Go.Deep Go.ChangeShapes Go.WideShapes Go.ChangeAt Go.RowKit Go.Shelf
theorem ptsx_none {w : World} {ao : Option Addr} {l : List (Int × Int)} {n : Nat} (h : Pts w ao l) (hn : n = l.length) (h0 : ao = none) : n = 0 := by
  refine Classical.byContradiction fun hne => ?_
  obtain ⟨b, off, h1, -⟩ := h.cells (by omega)
  rw [h0] at h1
  cases h1
theorem ptsx_row {w : World} {ao : Option Addr} {l : List (Int × Int)} (h : Pts w ao l) (ad : Addr) (h0 : ao = some ad) : ∀ (j : Nat) (u : Value), (flat2 l)[j]? = some u → w.cell? (ad.add j) = some u := by
  subst h0
  exact pts_flat h
set_option maxRecDepth 100000 in
set_option maxHeartbeats 8000000 in
theorem termWith_any (f : Int) (F : List Int) (S : List (Int × Int)) (aoF : Option Addr) (nF cF : Nat) (aoS : Option Addr) (nS cS : Nat) (x y z0 z1 : Int) (w : World) (hcl : Cl w aoF nF aoS nS F S) :
    Calls Try.prog 15 #[.agg #[.int .i64 f, .slice aoF nF cF, .slice aoS nS cS], .agg #[.int .i64 x, .int .i64 y], .agg #[.int .i64 z0, .int .i64 z1]] w fun e w' => e = .returned (.bool true) ∧ Below w.heap.size w w' := by
  obtain ⟨i0, hi0, hz0, hz1, hz2⟩ := info_in
  obtain ⟨i1, hi1, hy0, hy1, hy2⟩ := info_rt
  have hA := below_alloc3 w (.cells #[.int .i64 f, .slice aoF nF cF, .slice aoS nS cS] 25) (.cells #[.int .i64 x, .int .i64 y] 64) (.cells #[.int .i64 z0, .int .i64 z1] 38)
  obtain ⟨rc, rs, rr⟩ := heap3 w (.cells #[.int .i64 f, .slice aoF nF cF, .slice aoS nS cS] 25) (.cells #[.int .i64 x, .int .i64 y] 64) (.cells #[.int .i64 z0, .int .i64 z1] 38)
  replace hcl := hcl.below hA
  go_enter Try.func15, Try.ntmps15
  go_upto_region 1 with fail
  generalize ((w.alloc (.cells #[.int .i64 f, .slice aoF nF cF, .slice aoS nS cS] 25)).alloc (.cells #[.int .i64 x, .int .i64 y] 64)).alloc (.cells #[.int .i64 z0, .int .i64 z1] 38) = W0 at hA rc rs rr hcl ⊢
  obtain ⟨G, hG⟩ : ∃ g, g = w.heap.size := ⟨_, rfl⟩
  rw [← hG] at rc rs rr ⊢
  have HG := Lib.hid hG
  clear hG
  have c0 := cell_of_row W0 G 0 _ _ _ rc
  have c1 := cell_of_row W0 G 1 _ _ _ rc
  have c2 := cell_of_row W0 G 2 _ _ _ rc
  have d0 := cell_of_row W0 (G + 1) 0 _ _ _ rs
  have d1 := cell_of_row W0 (G + 1) 1 _ _ _ rs
  have u0 := cell_of_row W0 (G + 1 + 1) 0 _ _ _ rr
  have u1 := cell_of_row W0 (G + 1 + 1) 1 _ _ _ rr
  simp at c0 c1 c2 d0 d1 u0 u1
  clear rc rs rr
  go_wp2_with fail
  refine ((tlong_any f F S aoF nF cF aoS nS cS W0)).mono ?_
  rintro e w1 ⟨rfl, hbb⟩
  replace hcl := hcl.below hbb
  replace c0 := keep_cell hbb c0
  replace c1 := keep_cell hbb c1
  replace c2 := keep_cell hbb c2
  replace d0 := keep_cell hbb d0
  replace d1 := keep_cell hbb d1
  replace u0 := keep_cell hbb u0
  replace u1 := keep_cell hbb u1
  replace hA := hA.trans (hbb.mono hA.size)
  clear hbb
  obtain ⟨B, hB⟩ : ∃ t, (decide (100 < nF) || decide (100 < nS)) = t := ⟨_, rfl⟩
  rw [hB]
  cases B with
  | true =>
    clear hB
    go_wp2_with fail
    refine (tknown_any w1).mono ?_
    rintro e w9 ⟨rfl, hbb⟩
    go_wp2_with fail
    go_ret
    exact ⟨rfl, hA.trans (hbb.mono hA.size)⟩
  | false =>
    rw [Bool.or_eq_false_iff, decide_eq_false_iff_not, decide_eq_false_iff_not] at hB
    obtain ⟨h9a, h8a⟩ := hB
    have h9 : nF ≤ 100000 := by omega
    have h8 : nS ≤ 100000 := by omega
    have h8b : nS ≤ 100 := by omega
    clear h9a h8a
    go_upto_region 3 with fail
    refine wp_region_grow (by kernel_rfl) (by kernel_rfl) (by kernel_rfl) 12 (by rfl) (by kernel_rfl) (fun k v W => match k with
    | 0 => v = .pointer (some ⟨G, 0, none⟩)
    | 1 => v = .int .i64 f
    | 2 => ∃ g, v = .slice (some ⟨g, 0, none⟩) 0 0 ∧ w1.heap.size ≤ g ∧ W.heap[g]? = some (.cells #[] 3 (0, 0))
    | 3 => v = .pointer (some ⟨G, 1, none⟩)
    | 4 => v = .slice aoF nF cF
    | 5 => ∃ ao cap, v = .slice ao nF cap ∧ W.ownsRow w1.heap.size 3 1 v nF (F.map (Value.int .i64))
    | 6 => ∃ g, v = .slice (some ⟨g, 0, none⟩) 0 0 ∧ w1.heap.size ≤ g ∧ W.heap[g]? = some (.cells #[] 64 (0, 0))
    | 7 => v = .pointer (some ⟨G, 2, none⟩)
    | 8 => v = .slice aoS nS cS
    | 9 => ∃ ao cap, v = .slice ao nS cap ∧ W.ownsRow w1.heap.size 64 2 v nS (flat2 S)
    | 10 => ∃ ao cap ao2 cap2, v = .agg #[.int .i64 f, .slice ao nF cap, .slice ao2 nS cap2] ∧ W.ownsRow w1.heap.size 3 1 (.slice ao nF cap) nF (F.map (Value.int .i64)) ∧ W.ownsRow w1.heap.size 64 2 (.slice ao2 nS cap2) nS (flat2 S)
    | 11 => ∃ g, v = .pointer (some ⟨g, 0, none⟩) ∧ w1.heap.size ≤ g ∧ W.heap[g]? = some (.cells #[.int .i64 0, .slice none 0 0, .slice none 0 0] 25 (0, 0))
    | _ => True) ?mono ?step ?last
    case mono =>
      intro k v w5 w6 h hb
      match k, h with
      | 0, h => exact h
      | 1, h => exact h
      | 2, ⟨g, h1, h2, h3⟩ => exact ⟨g, h1, h2, heap_keep hb h3⟩
      | 3, h => exact h
      | 4, h => exact h
      | 5, ⟨a, c, h1, h2⟩ => exact ⟨a, c, h1, own_below h2 hb⟩
      | 6, ⟨g, h1, h2, h3⟩ => exact ⟨g, h1, h2, heap_keep hb h3⟩
      | 7, h => exact h
      | 8, h => exact h
      | 9, ⟨a, c, h1, h2⟩ => exact ⟨a, c, h1, own_below h2 hb⟩
      | 10, ⟨a, c, a2, d, h1, h2, h3⟩ => exact ⟨a, c, a2, d, h1, own_below h2 hb, own_below h3 hb⟩
      | 11, ⟨g, h1, h2, h3⟩ => exact ⟨g, h1, h2, heap_keep hb h3⟩
      | _ + 12, _ => trivial
    case step =>
      intro k o hk ho vals a w5 hb hd hold
      have e3 : a.tmps[3]?.getD undef = .pointer (some ⟨G, 0, none⟩) := (ev a 3).symm.trans (hold 3 (not_dst (by kernel_rfl)))
      have c0' := keep_cell hb c0
      have c1' := keep_cell hb c1
      have c2' := keep_cell hb c2
      have hF' := hcl.hF.below hb
      have hS' := hcl.hS.below hb
      match k, hk, ho with
      | 0, _, ho =>
        cases ho
        go_simp
        exact ⟨_, rfl, rfl, Below.refl _ _⟩
      | 1, _, ho =>
        cases ho
        obtain ⟨p0, q0⟩ := hd ⟨0, .data⟩ (by simp) rfl
        have e21 : a.tmps[21]?.getD undef = .pointer (some ⟨G, 0, none⟩) := ((ev a 21).symm.trans (q0 _ 21 rfl rfl (by simp))).trans p0
        go_simp
        exact ⟨_, rfl, rfl, Below.refl _ _⟩
      | 2, _, ho =>
        cases ho
        go_simp
        exact ⟨_, rfl, ⟨_, rfl, hb.size, heap_alloc_new _ _⟩, (Below.refl _ _).alloc (Nat.le_refl _) _⟩
      | 3, _, ho =>
        cases ho
        go_simp
        exact ⟨_, rfl, rfl, Below.refl _ _⟩
      | 4, _, ho =>
        cases ho
        obtain ⟨p0, q0⟩ := hd ⟨3, .data⟩ (by simp) rfl
        have e24 : a.tmps[24]?.getD undef = .pointer (some ⟨G, 1, none⟩) := ((ev a 24).symm.trans (q0 _ 24 rfl rfl (by simp))).trans p0
        go_simp
        exact ⟨_, rfl, rfl, Below.refl _ _⟩
      | 5, _, ho =>
        cases ho
        obtain ⟨p0, q0⟩ := hd ⟨2, .data⟩ (by simp) rfl
        obtain ⟨g, h01, h2, h3⟩ := p0
        have e23 : a.tmps[23]?.getD undef = .slice (some ⟨g, 0, none⟩) 0 0 := ((ev a 23).symm.trans (q0 _ 23 rfl rfl (by simp))).trans h01
        obtain ⟨p1, q1⟩ := hd ⟨4, .data⟩ (by simp) rfl
        have e25 : a.tmps[25]?.getD undef = .slice aoF nF cF := ((ev a 25).symm.trans (q1 _ 25 rfl rfl (by simp))).trans p1
        refine wp_copy _ _ _ 3 rfl i0 _ 1 8 rfl hi0 hz0 hz1 hz2 rfl (by decide) g w1.heap.size ((ev a 23).trans e23) h3 h2 hb.size aoF nF cF (F.map (Value.int .i64)) ((ev a 25).trans e25) (by simp; exact hcl.nf.symm) (cells_none hF' hcl.nf) (cells_row hF') (by unfold maxLen; omega) (by omega) ?_
        intro v' w' h4 h5
        obtain ⟨ao, cap, h6, -⟩ := own_ints (h4 : w'.ownsRow w1.heap.size 3 1 v' nF _) hcl.nf
        exact ⟨_, rfl, ⟨ao, cap, h6, h4⟩, h5⟩
      | 6, _, ho =>
        cases ho
        go_simp
        exact ⟨_, rfl, ⟨_, rfl, hb.size, heap_alloc_new _ _⟩, (Below.refl _ _).alloc (Nat.le_refl _) _⟩
      | 7, _, ho =>
        cases ho
        go_simp
        exact ⟨_, rfl, rfl, Below.refl _ _⟩
      | 8, _, ho =>
        cases ho
        obtain ⟨p0, q0⟩ := hd ⟨7, .data⟩ (by simp) rfl
        have e28 : a.tmps[28]?.getD undef = .pointer (some ⟨G, 2, none⟩) := ((ev a 28).symm.trans (q0 _ 28 rfl rfl (by simp))).trans p0
        go_simp
        exact ⟨_, rfl, rfl, Below.refl _ _⟩
      | 9, _, ho =>
        cases ho
        obtain ⟨p0, q0⟩ := hd ⟨6, .data⟩ (by simp) rfl
        obtain ⟨g, h01, h2, h3⟩ := p0
        have e27 : a.tmps[27]?.getD undef = .slice (some ⟨g, 0, none⟩) 0 0 := ((ev a 27).symm.trans (q0 _ 27 rfl rfl (by simp))).trans h01
        obtain ⟨p1, q1⟩ := hd ⟨8, .data⟩ (by simp) rfl
        have e29 : a.tmps[29]?.getD undef = .slice aoS nS cS := ((ev a 29).symm.trans (q1 _ 29 rfl rfl (by simp))).trans p1
        refine wp_copy _ _ _ 64 rfl i1 _ 2 16 rfl hi1 hy0 hy1 hy2 rfl (by decide) g w1.heap.size ((ev a 27).trans e27) h3 h2 hb.size aoS nS cS (flat2 S) ((ev a 29).trans e29) (by rw [flat2_length, hcl.ns]) (ptsx_none hS' hcl.ns) (ptsx_row hS') (by unfold maxLen; omega) (by omega) ?_
        intro v' w' h4 h5
        obtain ⟨ao, cap, h6, -⟩ := own_pts2 (h4 : w'.ownsRow w1.heap.size 64 2 v' nS _) hcl.ns
        exact ⟨_, rfl, ⟨ao, cap, h6, h4⟩, h5⟩
      | 10, _, ho =>
        cases ho
        obtain ⟨p0, q0⟩ := hd ⟨1, .data⟩ (by simp) rfl
        have e22 : a.tmps[22]?.getD undef = .int .i64 f := ((ev a 22).symm.trans (q0 _ 22 rfl rfl (by simp))).trans p0
        obtain ⟨p1, q1⟩ := hd ⟨5, .data⟩ (by simp) rfl
        obtain ⟨ao, cap, h11, h12⟩ := p1
        have e26 : a.tmps[26]?.getD undef = .slice ao nF cap := ((ev a 26).symm.trans (q1 _ 26 rfl rfl (by simp))).trans h11
        obtain ⟨p2, q2⟩ := hd ⟨9, .data⟩ (by simp) rfl
        obtain ⟨ao2, cap2, h21, h22⟩ := p2
        have e30 : a.tmps[30]?.getD undef = .slice ao2 nS cap2 := ((ev a 30).symm.trans (q2 _ 30 rfl rfl (by simp))).trans h21
        go_simp
        exact ⟨_, rfl, ⟨_, _, _, _, rfl, by rw [← h11]; exact h12, by rw [← h21]; exact h22⟩, Below.refl _ _⟩
      | 11, _, ho =>
        cases ho
        go_simp
        exact ⟨_, rfl, ⟨_, rfl, hb.size, heap_alloc_new _ _⟩, (Below.refl _ _).alloc (Nat.le_refl _) _⟩
    case last =>
      intro vals w5 hΦ hb o a5 ho ha5
      cases ho
      have p10 := hΦ 10 (by omega)
      have p11 := hΦ 11 (by omega)
      obtain ⟨aoN, capN, aoM, capM, h101, h102, h103⟩ := p10
      obtain ⟨g, h111, h112, h113⟩ := p11
      clear hΦ
      simp only [canon, Act.put, List.getElem?_toArray, List.getElem?_cons_zero, List.getElem?_cons_succ, Option.bind_some, List.setIfInBounds_toArray, List.set_cons_zero, List.set_cons_succ, h101, h111] at ha5
      subst ha5
      simp only [List.getElem_toArray, List.getElem_cons_zero, List.getElem_cons_succ]
      obtain ⟨⟨s0, s1, s2⟩, t0, t1, t2⟩ := row3 h113
      go_simp
      have hW6 := below_setCell (o := 2) (below_setCell (o := 1) (below_setCell (o := 0) hb h112 (.int .i64 f)) h112 (.slice aoN nF capN)) h112 (.slice aoM nS capM)
      have hrow := three_cells h113 (.int .i64 f) (.slice aoN nF capN) (.slice aoM nS capM)
      have hr1 := heap_setCell_same w5 g 0 _ _ (.int .i64 f) h113
      have hr3 := heap_setCell_same _ g 1 _ _ (.slice aoN nF capN) hr1
      have hown1 := own_set_type (o := 2) (u := .slice aoM nS capM) (own_set_type (o := 1) (u := .slice aoN nF capN) (own_set_type (o := 0) (u := .int .i64 f) h102 h113 (by decide)) hr1 (by decide)) hr3 (by decide)
      have hown2 := own_set_type (o := 2) (u := .slice aoM nS capM) (own_set_type (o := 1) (u := .slice aoN nF capN) (own_set_type (o := 0) (u := .int .i64 f) h103 h113 (by decide)) hr1 (by decide)) hr3 (by decide)
      generalize ((w5.setCell ⟨g, 0, none⟩ (.int .i64 f)).setCell ⟨g, 1, none⟩ (.slice aoN nF capN)).setCell ⟨g, 2, none⟩ (.slice aoM nS capM) = W6 at hW6 hrow hown1 hown2 ⊢
      generalize vals 0 = v21, vals 1 = v22, vals 2 = v23, vals 3 = v24, vals 4 = v25, vals 5 = v26, vals 6 = v27, vals 7 = v28, vals 8 = v29, vals 9 = v30
      clear s0 s1 s2 t0 t1 t2 hr1 hr3 h113 h102 h103 h101 h111 hb
      obtain ⟨aN, cN, e1, -, hIN⟩ := own_ints hown1 hcl.nf
      cases e1
      obtain ⟨aM, cM, e2, -, hPM⟩ := own_pts2 hown2 hcl.ns
      cases e2
      have hclN : Cl W6 aoN nF aoM nS F S := ⟨hIN, hPM, hcl.nf, hcl.ns⟩
      replace hcl := hcl.below hW6
      replace c0 := keep_cell hW6 c0
      replace c1 := keep_cell hW6 c1
      replace c2 := keep_cell hW6 c2
      replace d0 := keep_cell hW6 d0
      replace d1 := keep_cell hW6 d1
      replace u0 := keep_cell hW6 u0
      replace u1 := keep_cell hW6 u1
      replace hA := hA.trans (hW6.mono hA.size)
      clear hW6 hIN hPM hown1 hown2 h112
      obtain ⟨⟨b0, b1, b2⟩, -⟩ := row3 hrow
      clear hrow
      have hB6 := Below.refl W6.heap.size W6
      have HK6 := Lib.hid (fun W (hb : Below W6.heap.size W6 W) => And.intro (hcl.below hb) (And.intro (hclN.below hb) (And.intro (keep_cell hb c0) (And.intro (keep_cell hb c1) (And.intro (keep_cell hb c2) (And.intro (keep_cell hb b0) (And.intro (keep_cell hb b1) (And.intro (keep_cell hb b2) (hA.trans (hb.mono hA.size))))))))))
      obtain ⟨R, hR⟩ : ∃ c, c = Tm.wcode f F S x y := ⟨_, rfl⟩
      have HR := Lib.hid hR
      clear hR
      have hX := With_any f F S aoN nF capN aoM nS capM x y W6 hclN h9 h8
      rw [← HR.out] at hX
      go_wp2_with fail
      refine hX.mono ?_
      clear hX
      rintro e w7 ⟨⟨f2, vF, vS, F2, L, rfl, hq, ho1, ho2⟩, hbb⟩
      replace hcl := hcl.below hbb
      replace hclN := hclN.below hbb
      replace c0 := keep_cell hbb c0
      replace c1 := keep_cell hbb c1
      replace c2 := keep_cell hbb c2
      replace d0 := keep_cell hbb d0
      replace d1 := keep_cell hbb d1
      replace u0 := keep_cell hbb u0
      replace u1 := keep_cell hbb u1
      replace b0 := keep_cell hbb b0
      replace b1 := keep_cell hbb b1
      replace b2 := keep_cell hbb b2
      replace hA := hA.trans (hbb.mono hA.size)
      replace hB6 := hB6.trans (hbb.mono hB6.size)
      clear hbb
      obtain ⟨aoA, capA, rfl, -, -⟩ := own_ints ho1 rfl
      obtain ⟨aoB, capB, rfl, -, -⟩ := own_pts2 ho2 rfl
      have HQ := Lib.hid hq
      have HO1 := Lib.hid ho1
      have HO2 := Lib.hid ho2
      clear hq ho1 ho2
      go_upto_region 5 with fail
      have hal := (Below.refl w7.heap.size w7).alloc (Nat.le_refl _) (.cells #[.int .i64 f2, .slice aoA F2.length capA, .slice aoB L.length capB] 25)
      have rA := heap_alloc_new w7 (.cells #[.int .i64 f2, .slice aoA F2.length capA, .slice aoB L.length capB] 25)
      obtain ⟨GA, hGA⟩ : ∃ g, g = w7.heap.size := ⟨_, rfl⟩
      have HGA := Lib.hid hGA
      rw [← hGA] at rA ⊢
      clear hGA
      replace HO1 := Lib.hid (own_below HO1.out hal)
      replace HO2 := Lib.hid (own_below HO2.out hal)
      replace hcl := hcl.below hal
      replace hclN := hclN.below hal
      replace c0 := keep_cell hal c0
      replace c1 := keep_cell hal c1
      replace c2 := keep_cell hal c2
      replace d0 := keep_cell hal d0
      replace d1 := keep_cell hal d1
      replace u0 := keep_cell hal u0
      replace u1 := keep_cell hal u1
      replace b0 := keep_cell hal b0
      replace b1 := keep_cell hal b1
      replace b2 := keep_cell hal b2
      replace hA := hA.trans (hal.mono hA.size)
      replace hB6 := hB6.trans (hal.mono hB6.size)
      generalize w7.alloc (.cells #[.int .i64 f2, .slice aoA F2.length capA, .slice aoB L.length capB] 25) = w8 at hal rA HO1 HO2 hcl hclN c0 c1 c2 d0 d1 u0 u1 b0 b1 b2 hA hB6 ⊢
      clear hal
      have HS6 := Lib.hid (show F2.length ≤ 100000 ∧ L.length ≤ 100000 by
        rcases HQ.out with ⟨-, -, e1, e2⟩ | ⟨-, -, e1, e2, -⟩
        · rw [e1, e2]; simp
        · have h3 := e2.length_eq
          rw [List.length_append] at h3
          have h4 := hcl.nf
          have h5 := hcl.ns
          rw [e1, h3]
          simp
          omega)
      have hX := refWith_any f F S aoF nF cF aoS nS cS x y w8 hcl h9 h8
      rw [← HR.out] at hX
      go_wp2_with fail
      refine hX.mono ?_
      clear hX
      rintro e w9 ⟨⟨f3, vF3, vS3, F3, L3, rfl, hq3, ho3, ho4⟩, hbb⟩
      replace hcl := hcl.below hbb
      replace hclN := hclN.below hbb
      replace c0 := keep_cell hbb c0
      replace c1 := keep_cell hbb c1
      replace c2 := keep_cell hbb c2
      replace d0 := keep_cell hbb d0
      replace d1 := keep_cell hbb d1
      replace u0 := keep_cell hbb u0
      replace u1 := keep_cell hbb u1
      replace b0 := keep_cell hbb b0
      replace b1 := keep_cell hbb b1
      replace b2 := keep_cell hbb b2
      replace HO1 := Lib.hid (own_below HO1.out hbb)
      replace HO2 := Lib.hid (own_below HO2.out hbb)
      replace rA := heap_keep hbb rA
      replace hA := hA.trans (hbb.mono hA.size)
      replace hB6 := hB6.trans (hbb.mono hB6.size)
      clear hbb
      obtain ⟨rfl, rfl, rfl⟩ := Tm.wr_unique HQ.out hq3
      obtain ⟨aoC, capC, rfl, -, -⟩ := own_ints ho3 rfl
      obtain ⟨aoD, capD, rfl, -, -⟩ := own_pts2 ho4 rfl
      have HO3 := Lib.hid ho3
      have HO4 := Lib.hid ho4
      clear ho3 ho4 hq3
      go_upto_region 6 with fail
      have hal := (Below.refl w9.heap.size w9).alloc (Nat.le_refl _) (.cells #[.int .i64 f2, .slice aoC F2.length capC, .slice aoD L.length capD] 25)
      have rB := heap_alloc_new w9 (.cells #[.int .i64 f2, .slice aoC F2.length capC, .slice aoD L.length capD] 25)
      obtain ⟨GB, hGB⟩ : ∃ g, g = w9.heap.size := ⟨_, rfl⟩
      have HGB := Lib.hid hGB
      rw [← hGB] at rB ⊢
      clear hGB
      replace hcl := hcl.below hal
      replace hclN := hclN.below hal
      replace c0 := keep_cell hal c0
      replace c1 := keep_cell hal c1
      replace c2 := keep_cell hal c2
      replace d0 := keep_cell hal d0
      replace d1 := keep_cell hal d1
      replace u0 := keep_cell hal u0
      replace u1 := keep_cell hal u1
      replace b0 := keep_cell hal b0
      replace b1 := keep_cell hal b1
      replace b2 := keep_cell hal b2
      replace HO1 := Lib.hid (own_below HO1.out hal)
      replace HO2 := Lib.hid (own_below HO2.out hal)
      replace rA := heap_keep hal rA
      replace hA := hA.trans (hal.mono hA.size)
      replace hB6 := hB6.trans (hal.mono hB6.size)
      replace HO3 := Lib.hid (own_below HO3.out hal)
      replace HO4 := Lib.hid (own_below HO4.out hal)
      generalize w9.alloc (.cells #[.int .i64 f2, .slice aoC F2.length capC, .slice aoD L.length capD] 25) = w10 at hal rA rB HO1 HO2 HO3 HO4 hcl hclN c0 c1 c2 d0 d1 u0 u1 b0 b1 b2 hA hB6 ⊢
      clear hal
      obtain ⟨⟨a0, a1, a2⟩, -⟩ := row3 rA
      obtain ⟨⟨g0, g1, g2⟩, -⟩ := row3 rB
      obtain ⟨aN, cN, e1, -, hIA⟩ := own_ints HO1.out rfl
      cases e1
      obtain ⟨aM, cM, e2, -, hPA⟩ := own_pts2 HO2.out rfl
      cases e2
      obtain ⟨aN, cN, e1, -, hIC⟩ := own_ints HO3.out rfl
      cases e1
      obtain ⟨aM, cM, e2, -, hPC⟩ := own_pts2 HO4.out rfl
      cases e2
      have hX := refSame_any f2 F2 L aoA F2.length capA aoB L.length capB f2 F2 L aoC F2.length capC aoD L.length capD w10 ⟨hIA, hPA, rfl, rfl⟩ HS6.out.1 HS6.out.2 ⟨hIC, hPC, rfl, rfl⟩ HS6.out.1 HS6.out.2
      rw [decide_eq_true (rfl : f2 = f2), decide_eq_true (rfl : F2 = F2), decide_eq_true (rfl : L = L)] at hX
      have i1 : (R != R) = false := by simp
      clear hIA hPA hIC hPC
      go_wp2_with fail
      refine hX.mono ?_
      clear hX
      rintro e w11 ⟨rfl, hbb⟩
      replace hcl := hcl.below hbb
      replace hclN := hclN.below hbb
      replace c0 := keep_cell hbb c0
      replace c1 := keep_cell hbb c1
      replace c2 := keep_cell hbb c2
      replace d0 := keep_cell hbb d0
      replace d1 := keep_cell hbb d1
      replace u0 := keep_cell hbb u0
      replace u1 := keep_cell hbb u1
      replace b0 := keep_cell hbb b0
      replace b1 := keep_cell hbb b1
      replace b2 := keep_cell hbb b2
      replace a0 := keep_cell hbb a0
      replace a1 := keep_cell hbb a1
      replace a2 := keep_cell hbb a2
      replace HO1 := Lib.hid (own_below HO1.out hbb)
      replace HO2 := Lib.hid (own_below HO2.out hbb)
      replace rA := heap_keep hbb rA
      replace hA := hA.trans (hbb.mono hA.size)
      replace hB6 := hB6.trans (hbb.mono hB6.size)
      clear hbb g0 g1 g2 rB HO3 HO4
      by_cases hR0 : R = 0
      · have i2 : (R == 0) = true := by simp [hR0]
        have hR1 : Tm.wcode f F S x y = 0 := HR.out.symm.trans hR0
        obtain ⟨e1, e2, hpm, hsd⟩ : f2 = f ∧ F2 = F ∧ L.Perm (S ++ [(x, y)]) ∧ L.Pairwise (fun a b => a.1 ≤ b.1) := by
          rcases HQ.out with ⟨h1, -⟩ | ⟨-, h1, h2, h3, h4⟩
          · exact absurd hR1 h1
          · exact ⟨h1, h2, h3, h4⟩
        have ht : Tm.tcode f2 F2 L z0 [z1] = Tm.tcode f F S z0 [z1] := by
          rw [e1, e2]
          exact Tm.tcode_same (Tm.wcode_ok hR1).1 (Tm.new_valid hR1 hpm hsd)
        have hw : Tm.work f2 F2 = Tm.work f F := by rw [e1, e2]
        have HPM := Lib.hid hpm
        have HT := Lib.hid ht
        have HW := Lib.hid hw
        clear e1 e2 hpm hsd ht hw hR1
        obtain ⟨C, hC⟩ : ∃ c, c = Tm.tcode f F S z0 [z1] := ⟨_, rfl⟩
        have HC := Lib.hid hC
        clear hC
        have hX := Ends_any f F S aoF nF cF aoS nS cS z0 z1 w11 hcl h9 h8
        rw [← HC.out] at hX
        go_wp2_with fail
        refine hX.mono ?_
        clear hX
        rintro e w12 ⟨⟨p, rfl, hp1⟩, hbb⟩
        replace hcl := hcl.below hbb
        replace hclN := hclN.below hbb
        replace c0 := keep_cell hbb c0
        replace c1 := keep_cell hbb c1
        replace c2 := keep_cell hbb c2
        replace d0 := keep_cell hbb d0
        replace d1 := keep_cell hbb d1
        replace u0 := keep_cell hbb u0
        replace u1 := keep_cell hbb u1
        replace b0 := keep_cell hbb b0
        replace b1 := keep_cell hbb b1
        replace b2 := keep_cell hbb b2
        replace a0 := keep_cell hbb a0
        replace a1 := keep_cell hbb a1
        replace a2 := keep_cell hbb a2
        replace HO1 := Lib.hid (own_below HO1.out hbb)
        replace HO2 := Lib.hid (own_below HO2.out hbb)
        replace rA := heap_keep hbb rA
        replace hA := hA.trans (hbb.mono hA.size)
        replace hB6 := hB6.trans (hbb.mono hB6.size)
        clear hbb
        obtain ⟨aN, cN, e1, -, hIA⟩ := own_ints HO1.out rfl
        cases e1
        obtain ⟨aM, cM, e2, -, hPA⟩ := own_pts2 HO2.out rfl
        cases e2
        have hX := Ends_any f2 F2 L aoA F2.length capA aoB L.length capB z0 z1 w12 ⟨hIA, hPA, rfl, rfl⟩ HS6.out.1 HS6.out.2
        rw [HT.out, HW.out, ← HC.out] at hX
        clear hIA hPA
        have HP1 := Lib.hid hp1
        clear hp1
        go_wp2_with fail
        refine hX.mono ?_
        clear hX
        rintro e w13 ⟨⟨q2, rfl, hq1⟩, hbb⟩
        replace hcl := hcl.below hbb
        replace hclN := hclN.below hbb
        replace c0 := keep_cell hbb c0
        replace c1 := keep_cell hbb c1
        replace c2 := keep_cell hbb c2
        replace d0 := keep_cell hbb d0
        replace d1 := keep_cell hbb d1
        replace u0 := keep_cell hbb u0
        replace u1 := keep_cell hbb u1
        replace b0 := keep_cell hbb b0
        replace b1 := keep_cell hbb b1
        replace b2 := keep_cell hbb b2
        replace a0 := keep_cell hbb a0
        replace a1 := keep_cell hbb a1
        replace a2 := keep_cell hbb a2
        replace HO1 := Lib.hid (own_below HO1.out hbb)
        replace HO2 := Lib.hid (own_below HO2.out hbb)
        replace rA := heap_keep hbb rA
        replace hA := hA.trans (hbb.mono hA.size)
        replace hB6 := hB6.trans (hbb.mono hB6.size)
        clear hbb
        have i3 : (C != C) = false := by simp
        by_cases hC0 : C = 0
        · have hpq : p ≤ q2 := by
            rcases HP1.out with ⟨-, h1, -⟩ | ⟨h1, -⟩
            · rcases hq1 with ⟨-, h2, -⟩ | ⟨h2, -⟩
              · exact Tm.ends_more (fun z hz => Tm.count_perm HPM.out z hz) h1 h2
              · exact absurd hC0 h2
            · exact absurd hC0 h1
          have i5 : decide ((q2 : Int) < (p : Int)) = false := decide_eq_false (by omega)
          have i6 : (C == 0) = true := by simp [hC0]
          have i7 : ¬ (q2 : Int) < (p : Int) := by omega
          have i8 : decide (q2 < p) = false := decide_eq_false (by omega)
          have i9 : ¬ q2 < p := by omega
          clear hq1 hpq HP1
          clear hcl hclN c0 c1 c2 d0 d1 u0 u1 b0 b1 b2 a0 a1 a2 hA
          obtain ⟨hF6, hL6⟩ := HS6.out
          go_wp2_with fail
          go_loopw [16] (fun i W => ∃ (k : Nat) (M : List Value), k ≤ F2.length ∧ i = .int .i64 k ∧ Hid (Below W6.heap.size W6 W) ∧ W.heap[GA]? = some (.cells #[.int .i64 f2, .slice aoA F2.length capA, .slice aoB L.length capB] 25 (0, 0)) ∧ Hid (W.ownsRow W6.heap.size 3 1 (.slice aoA F2.length capA) F2.length M) ∧ Hid (W.ownsRow W6.heap.size 64 2 (.slice aoB L.length capB) L.length (flat2 L))) (fun i _ => F2.length - (intOf i).toNat)
          case atStart => exact ⟨0, _, Nat.zero_le _, rfl, Lib.hid hB6, rA, HO1, HO2⟩
          case round =>
            clear rA HO1 HO2 hB6
            obtain ⟨k, M, hk, rfl, HB, rA, HO1, HO2⟩ := hrel
            obtain ⟨⟨a0, a1, a2⟩, -⟩ := row3 rA
            by_cases hlt : k < F2.length
            · have i4 : (k : Int) < (F2.length : Int) := by omega
              have hkM : k < M.length := by have := HO1.out.1; omega
              obtain ⟨q, cq, e1, hq, z1, z2, ⟨cs, z3⟩, hset⟩ := own_slot HO1.out hkM
              cases e1
              have HS1 := Lib.hid (hset (.int .i64 (-1)))
              have HB2 := Lib.hid (below_setCell (o := k) HB.out hq (.int .i64 (-1)))
              have HO3 := Lib.hid (own_set_type (o := k) (u := .int .i64 (-1)) HO2.out z3 (by decide))
              have rA2 := heap_set_type (o := k) (u := .int .i64 (-1)) z3 rA (by decide)
              clear hset HO1 HO2 HB z3 rA
              go_wp2_with fail
              go_roundw
              case rel => exact ⟨k + 1, _, by omega, by go_num, HB2, rA2, HS1, HO3⟩
              case measure => simp [intOf]; omega
            · have i4 : ¬ (k : Int) < (F2.length : Int) := by omega
              go_wp2_with fail
              go_loopw [17] (fun i W => ∃ (k : Nat) (M : List Value), k ≤ L.length ∧ i = .int .i64 k ∧ Hid (Below W6.heap.size W6 W) ∧ W.heap[GA]? = some (.cells #[.int .i64 f2, .slice aoA F2.length capA, .slice aoB L.length capB] 25 (0, 0)) ∧ Hid (W.ownsRow W6.heap.size 64 2 (.slice aoB L.length capB) L.length M)) (fun i _ => L.length - (intOf i).toNat)
              case atStart => exact ⟨0, _, Nat.zero_le _, rfl, HB, rA, HO2⟩
              case round =>
                rename World => wq
                clear rA HO1 HO2 HB a0 a1 a2 hlt i4 hk
                obtain ⟨k, M, hk, rfl, HB, rA, HO2⟩ := hrel
                obtain ⟨⟨a0, a1, a2⟩, -⟩ := row3 rA
                by_cases hlt : k < L.length
                · have i4 : (k : Int) < (L.length : Int) := by omega
                  have hkM : k * 2 < M.length := by have := HO2.out.1; omega
                  obtain ⟨q, cq, e1, hq, z1, z2, ⟨cs, z3⟩, hset⟩ := own_slot HO2.out hkM
                  cases e1
                  have HS1 := Lib.hid (hset (.int .i64 (-1)))
                  have HB2 := Lib.hid (below_setCell (o := k * 2) HB.out hq (.int .i64 (-1)))
                  have rA2 := heap_set_type (o := k * 2) (u := .int .i64 (-1)) z3 rA (by decide)
                  clear hset HO2 HB z3 rA
                  go_wp2_with fail
                  go_roundw
                  case rel => exact ⟨k + 1, _, by omega, by go_num, HB2, rA2, HS1⟩
                  case measure => simp [intOf]; omega
                · have i4 : ¬ (k : Int) < (L.length : Int) := by omega
                  obtain ⟨hcl, hclN, c0, c1, c2, b0, b1, b2, hA⟩ := HK6.out _ HB.out
                  have hX := refSame_any f F S aoN nF capN aoM nS capM f F S aoF nF cF aoS nS cS wq hclN h9 h8 hcl h9 h8
                  rw [decide_eq_true (rfl : f = f), decide_eq_true (rfl : F = F), decide_eq_true (rfl : S = S)] at hX
                  clear rA HO2
                  go_wp2_with fail
                  refine hX.mono ?_
                  clear hX
                  rintro e v1 ⟨rfl, hbb⟩
                  replace hA := hA.trans (hbb.mono hA.size)
                  clear hbb c0 c1 c2 b0 b1 b2 hcl hclN
                  go_wp2_with fail
                  refine (tknown_any v1).mono ?_
                  rintro e v2 ⟨rfl, hbb⟩
                  go_wp2_with fail
                  go_ret
                  exact ⟨rfl, hA.trans (hbb.mono hA.size)⟩
        · have i6 : (C == 0) = false := by simp [hC0]
          clear hq1 HP1
          clear hcl hclN c0 c1 c2 d0 d1 u0 u1 b0 b1 b2 a0 a1 a2 hA
          obtain ⟨hF6, hL6⟩ := HS6.out
          go_wp2_with fail
          go_loopw [16] (fun i W => ∃ (k : Nat) (M : List Value), k ≤ F2.length ∧ i = .int .i64 k ∧ Hid (Below W6.heap.size W6 W) ∧ W.heap[GA]? = some (.cells #[.int .i64 f2, .slice aoA F2.length capA, .slice aoB L.length capB] 25 (0, 0)) ∧ Hid (W.ownsRow W6.heap.size 3 1 (.slice aoA F2.length capA) F2.length M) ∧ Hid (W.ownsRow W6.heap.size 64 2 (.slice aoB L.length capB) L.length (flat2 L))) (fun i _ => F2.length - (intOf i).toNat)
          case atStart => exact ⟨0, _, Nat.zero_le _, rfl, Lib.hid hB6, rA, HO1, HO2⟩
          case round =>
            clear rA HO1 HO2 hB6
            obtain ⟨k, M, hk, rfl, HB, rA, HO1, HO2⟩ := hrel
            obtain ⟨⟨a0, a1, a2⟩, -⟩ := row3 rA
            by_cases hlt : k < F2.length
            · have i4 : (k : Int) < (F2.length : Int) := by omega
              have hkM : k < M.length := by have := HO1.out.1; omega
              obtain ⟨q, cq, e1, hq, z1, z2, ⟨cs, z3⟩, hset⟩ := own_slot HO1.out hkM
              cases e1
              have HS1 := Lib.hid (hset (.int .i64 (-1)))
              have HB2 := Lib.hid (below_setCell (o := k) HB.out hq (.int .i64 (-1)))
              have HO3 := Lib.hid (own_set_type (o := k) (u := .int .i64 (-1)) HO2.out z3 (by decide))
              have rA2 := heap_set_type (o := k) (u := .int .i64 (-1)) z3 rA (by decide)
              clear hset HO1 HO2 HB z3 rA
              go_wp2_with fail
              go_roundw
              case rel => exact ⟨k + 1, _, by omega, by go_num, HB2, rA2, HS1, HO3⟩
              case measure => simp [intOf]; omega
            · have i4 : ¬ (k : Int) < (F2.length : Int) := by omega
              go_wp2_with fail
              go_loopw [17] (fun i W => ∃ (k : Nat) (M : List Value), k ≤ L.length ∧ i = .int .i64 k ∧ Hid (Below W6.heap.size W6 W) ∧ W.heap[GA]? = some (.cells #[.int .i64 f2, .slice aoA F2.length capA, .slice aoB L.length capB] 25 (0, 0)) ∧ Hid (W.ownsRow W6.heap.size 64 2 (.slice aoB L.length capB) L.length M)) (fun i _ => L.length - (intOf i).toNat)
              case atStart => exact ⟨0, _, Nat.zero_le _, rfl, HB, rA, HO2⟩
              case round =>
                rename World => wq
                clear rA HO1 HO2 HB a0 a1 a2 hlt i4 hk
                obtain ⟨k, M, hk, rfl, HB, rA, HO2⟩ := hrel
                obtain ⟨⟨a0, a1, a2⟩, -⟩ := row3 rA
                by_cases hlt : k < L.length
                · have i4 : (k : Int) < (L.length : Int) := by omega
                  have hkM : k * 2 < M.length := by have := HO2.out.1; omega
                  obtain ⟨q, cq, e1, hq, z1, z2, ⟨cs, z3⟩, hset⟩ := own_slot HO2.out hkM
                  cases e1
                  have HS1 := Lib.hid (hset (.int .i64 (-1)))
                  have HB2 := Lib.hid (below_setCell (o := k * 2) HB.out hq (.int .i64 (-1)))
                  have rA2 := heap_set_type (o := k * 2) (u := .int .i64 (-1)) z3 rA (by decide)
                  clear hset HO2 HB z3 rA
                  go_wp2_with fail
                  go_roundw
                  case rel => exact ⟨k + 1, _, by omega, by go_num, HB2, rA2, HS1⟩
                  case measure => simp [intOf]; omega
                · have i4 : ¬ (k : Int) < (L.length : Int) := by omega
                  obtain ⟨hcl, hclN, c0, c1, c2, b0, b1, b2, hA⟩ := HK6.out _ HB.out
                  have hX := refSame_any f F S aoN nF capN aoM nS capM f F S aoF nF cF aoS nS cS wq hclN h9 h8 hcl h9 h8
                  rw [decide_eq_true (rfl : f = f), decide_eq_true (rfl : F = F), decide_eq_true (rfl : S = S)] at hX
                  clear rA HO2
                  go_wp2_with fail
                  refine hX.mono ?_
                  clear hX
                  rintro e v1 ⟨rfl, hbb⟩
                  replace hA := hA.trans (hbb.mono hA.size)
                  clear hbb c0 c1 c2 b0 b1 b2 hcl hclN
                  go_wp2_with fail
                  refine (tknown_any v1).mono ?_
                  rintro e v2 ⟨rfl, hbb⟩
                  go_wp2_with fail
                  go_ret
                  exact ⟨rfl, hA.trans (hbb.mono hA.size)⟩
      · have i2 : (R == 0) = false := by simp [hR0]
        clear hcl hclN c0 c1 c2 d0 d1 u0 u1 b0 b1 b2 a0 a1 a2 hA
        obtain ⟨hF6, hL6⟩ := HS6.out
        go_wp2_with fail
        go_loopw [16] (fun i W => ∃ (k : Nat) (M : List Value), k ≤ F2.length ∧ i = .int .i64 k ∧ Hid (Below W6.heap.size W6 W) ∧ W.heap[GA]? = some (.cells #[.int .i64 f2, .slice aoA F2.length capA, .slice aoB L.length capB] 25 (0, 0)) ∧ Hid (W.ownsRow W6.heap.size 3 1 (.slice aoA F2.length capA) F2.length M) ∧ Hid (W.ownsRow W6.heap.size 64 2 (.slice aoB L.length capB) L.length (flat2 L))) (fun i _ => F2.length - (intOf i).toNat)
        case atStart => exact ⟨0, _, Nat.zero_le _, rfl, Lib.hid hB6, rA, HO1, HO2⟩
        case round =>
          clear rA HO1 HO2 hB6
          obtain ⟨k, M, hk, rfl, HB, rA, HO1, HO2⟩ := hrel
          obtain ⟨⟨a0, a1, a2⟩, -⟩ := row3 rA
          by_cases hlt : k < F2.length
          · have i4 : (k : Int) < (F2.length : Int) := by omega
            have hkM : k < M.length := by have := HO1.out.1; omega
            obtain ⟨q, cq, e1, hq, z1, z2, ⟨cs, z3⟩, hset⟩ := own_slot HO1.out hkM
            cases e1
            have HS1 := Lib.hid (hset (.int .i64 (-1)))
            have HB2 := Lib.hid (below_setCell (o := k) HB.out hq (.int .i64 (-1)))
            have HO3 := Lib.hid (own_set_type (o := k) (u := .int .i64 (-1)) HO2.out z3 (by decide))
            have rA2 := heap_set_type (o := k) (u := .int .i64 (-1)) z3 rA (by decide)
            clear hset HO1 HO2 HB z3 rA
            go_wp2_with fail
            go_roundw
            case rel => exact ⟨k + 1, _, by omega, by go_num, HB2, rA2, HS1, HO3⟩
            case measure => simp [intOf]; omega
          · have i4 : ¬ (k : Int) < (F2.length : Int) := by omega
            go_wp2_with fail
            go_loopw [17] (fun i W => ∃ (k : Nat) (M : List Value), k ≤ L.length ∧ i = .int .i64 k ∧ Hid (Below W6.heap.size W6 W) ∧ W.heap[GA]? = some (.cells #[.int .i64 f2, .slice aoA F2.length capA, .slice aoB L.length capB] 25 (0, 0)) ∧ Hid (W.ownsRow W6.heap.size 64 2 (.slice aoB L.length capB) L.length M)) (fun i _ => L.length - (intOf i).toNat)
            case atStart => exact ⟨0, _, Nat.zero_le _, rfl, HB, rA, HO2⟩
            case round =>
              rename World => wq
              clear rA HO1 HO2 HB a0 a1 a2 hlt i4 hk
              obtain ⟨k, M, hk, rfl, HB, rA, HO2⟩ := hrel
              obtain ⟨⟨a0, a1, a2⟩, -⟩ := row3 rA
              by_cases hlt : k < L.length
              · have i4 : (k : Int) < (L.length : Int) := by omega
                have hkM : k * 2 < M.length := by have := HO2.out.1; omega
                obtain ⟨q, cq, e1, hq, z1, z2, ⟨cs, z3⟩, hset⟩ := own_slot HO2.out hkM
                cases e1
                have HS1 := Lib.hid (hset (.int .i64 (-1)))
                have HB2 := Lib.hid (below_setCell (o := k * 2) HB.out hq (.int .i64 (-1)))
                have rA2 := heap_set_type (o := k * 2) (u := .int .i64 (-1)) z3 rA (by decide)
                clear hset HO2 HB z3 rA
                go_wp2_with fail
                go_roundw
                case rel => exact ⟨k + 1, _, by omega, by go_num, HB2, rA2, HS1⟩
                case measure => simp [intOf]; omega
              · have i4 : ¬ (k : Int) < (L.length : Int) := by omega
                obtain ⟨hcl, hclN, c0, c1, c2, b0, b1, b2, hA⟩ := HK6.out _ HB.out
                have hX := refSame_any f F S aoN nF capN aoM nS capM f F S aoF nF cF aoS nS cS wq hclN h9 h8 hcl h9 h8
                rw [decide_eq_true (rfl : f = f), decide_eq_true (rfl : F = F), decide_eq_true (rfl : S = S)] at hX
                clear rA HO2
                go_wp2_with fail
                refine hX.mono ?_
                clear hX
                rintro e v1 ⟨rfl, hbb⟩
                replace hA := hA.trans (hbb.mono hA.size)
                clear hbb c0 c1 c2 b0 b1 b2 hcl hclN
                go_wp2_with fail
                refine (tknown_any v1).mono ?_
                rintro e v2 ⟨rfl, hbb⟩
                go_wp2_with fail
                go_ret
                exact ⟨rfl, hA.trans (hbb.mono hA.size)⟩
end Go.Proofs.Ytmdkdkiejcjmaaa
