import Derived.Test.YtemlfklipkpacaaNr
import Derived.Test.YtemlfklipkpacaaNt
/- Package knife: copied and Copy once more: fields whose rows lie apart. -/
namespace Go.Proofs.Ytemlfklipkpacaa
open Go.RowKit

/-- A table of numbers of the call's own, whose rows lie apart. -/
structure OTabS (w : World) (base : Nat) (v : Value) (V : List (List Int)) : Prop where
  rows : ∃ rs : List Value, w.ownsRow base 39 1 v V.length rs ∧ rs.length = V.length ∧ (∀ k (_ : k < V.length), ∃ ao cap, rs[k]? = some (.slice ao (V.getD k []).length cap) ∧ (V.getD k []).length ≤ cap ∧ w.ownsRow base 3 1 (.slice ao (V.getD k []).length cap) (V.getD k []).length ((V.getD k []).map (Value.int .i64))) ∧
    ∀ j k, j < k → k < V.length → ∀ g, (rs.getD j (.slice none 0 0)).ownBlock = some g → (rs.getD k (.slice none 0 0)).ownBlock ≠ some g
theorem OTabS.tab {w : World} {base : Nat} {v : Value} {V : List (List Int)} (h : OTabS w base v V) : OTab w base v V := by
  obtain ⟨rs, h1, h2, h3, -⟩ := h.rows
  exact ⟨rs, h1, h2, h3⟩
theorem rows_below {w w' : World} {base : Nat} {V : List (List Int)} {rs : List Value} (h3 : ∀ k (_ : k < V.length), ∃ ao cap, rs[k]? = some (.slice ao (V.getD k []).length cap) ∧ (V.getD k []).length ≤ cap ∧ w.ownsRow base 3 1 (.slice ao (V.getD k []).length cap) (V.getD k []).length ((V.getD k []).map (Value.int .i64))) (hb : Below w.heap.size w w') :
    ∀ k (_ : k < V.length), ∃ ao cap, rs[k]? = some (.slice ao (V.getD k []).length cap) ∧ (V.getD k []).length ≤ cap ∧ w'.ownsRow base 3 1 (.slice ao (V.getD k []).length cap) (V.getD k []).length ((V.getD k []).map (Value.int .i64)) := fun k hk => by
  obtain ⟨ao, cap, a1, a2, a3⟩ := h3 k hk
  exact ⟨ao, cap, a1, a2, own_below a3 hb⟩
theorem rows_lt {w : World} {base : Nat} {V : List (List Int)} {rs : List Value} (h3 : ∀ k (_ : k < V.length), ∃ ao cap, rs[k]? = some (.slice ao (V.getD k []).length cap) ∧ (V.getD k []).length ≤ cap ∧ w.ownsRow base 3 1 (.slice ao (V.getD k []).length cap) (V.getD k []).length ((V.getD k []).map (Value.int .i64))) {q g : Nat} (hq : q < V.length) (h : (rs.getD q (.slice none 0 0)).ownBlock = some g) : g < w.heap.size := by
  obtain ⟨ao, cap, a1, a2, a3⟩ := h3 q hq
  rw [List.getD_eq_getElem?_getD, a1, Option.getD_some] at h
  exact (a3.lt g h).2
theorem OTabS.below {w w' : World} {base : Nat} {v : Value} {V : List (List Int)} (h : OTabS w base v V) (hb : Below w.heap.size w w') : OTabS w' base v V := by
  obtain ⟨rs, h1, h2, h3, h4⟩ := h.rows
  exact ⟨rs, own_below h1 hb, h2, rows_below h3 hb, h4⟩
theorem OTabS.mono {w : World} {base base' : Nat} {v : Value} {V : List (List Int)} (h : OTabS w base v V) (hb : base' ≤ base) : OTabS w base' v V := by
  obtain ⟨rs, h1, h2, h3, h4⟩ := h.rows
  refine ⟨rs, own_mono h1 hb, h2, fun k hk => ?_, h4⟩
  obtain ⟨ao, cap, a1, a2, a3⟩ := h3 k hk
  exact ⟨ao, cap, a1, a2, own_mono a3 hb⟩
theorem OTabS.set {w : World} {base g o : Nat} {v u : Value} {V : List (List Int)} (h : OTabS w base v V) (hg : g < base) : OTabS (w.setCell ⟨g, o, none⟩ u) base v V := by
  obtain ⟨rs, h1, h2, h3, h4⟩ := h.rows
  refine ⟨rs, own_same h1 (fun k hk => heap_setCell_other w ⟨g, o, none⟩ k u (by show k ≠ g; have := (h1.lt k hk).1; omega)), h2, fun k hk => ?_, h4⟩
  obtain ⟨ao, cap, a1, a2, a3⟩ := h3 k hk
  exact ⟨ao, cap, a1, a2, own_same a3 (fun j hj => heap_setCell_other w ⟨g, o, none⟩ j u (by show j ≠ g; have := (a3.lt j hj).1; omega))⟩
theorem OTabS.setT {w : World} {base g o : Nat} {v u : Value} {V : List (List Int)} {cs : Array Value} {fr : Nat × Nat} (h : OTabS w base v V) (hg : w.heap[g]? = some (.cells cs 57 fr)) : OTabS (w.setCell ⟨g, o, none⟩ u) base v V := by
  obtain ⟨rs, h1, h2, h3, h4⟩ := h.rows
  refine ⟨rs, own_setT h1 hg (by decide), h2, fun k hk => ?_, h4⟩
  obtain ⟨ao, cap, a1, a2, a3⟩ := h3 k hk
  exact ⟨ao, cap, a1, a2, own_setT a3 hg (by decide)⟩
theorem otabS_none {w : World} {base : Nat} : OTabS w base (.slice none 0 0) [] := ⟨[], ⟨rfl, .inl ⟨rfl, rfl⟩⟩, rfl, fun k hk => absurd hk (by simp), fun j k _ hk => absurd hk (by simp)⟩
theorem otabS_push {w w' : World} {base : Nat} {v v' r : Value} {V : List (List Int)} {l : List Int} {rs : List Value} {ao : Option Addr} {cap : Nat} (h1 : w.ownsRow base 39 1 v V.length rs) (h2 : rs.length = V.length)
    (h3 : ∀ k (_ : k < V.length), ∃ ao cap, rs[k]? = some (.slice ao (V.getD k []).length cap) ∧ (V.getD k []).length ≤ cap ∧ w.ownsRow base 3 1 (.slice ao (V.getD k []).length cap) (V.getD k []).length ((V.getD k []).map (Value.int .i64)))
    (h4 : ∀ j k, j < k → k < V.length → ∀ g, (rs.getD j (.slice none 0 0)).ownBlock = some g → (rs.getD k (.slice none 0 0)).ownBlock ≠ some g)
    (h5 : ∀ q (_ : q < V.length) g, (rs.getD q (.slice none 0 0)).ownBlock = some g → r.ownBlock ≠ some g)
    (hr : r = .slice ao l.length cap) (hc : l.length ≤ cap) (ho : w.ownsRow base 3 1 r l.length (l.map (Value.int .i64))) (hg : w.grownBy w' v.ownBlock) (h' : w'.ownsRow base 39 1 v' (V.length + 1) (rs ++ [r])) : OTabS w' base v' (V ++ [l]) := by
  have keep : ∀ {u : Value} {n : Nat} {xs : List Value}, w.ownsRow base 3 1 u n xs → w'.ownsRow base 3 1 u n xs := fun {u n xs} hu => own_same hu (fun k hk => by
    refine hg.block k (hu.lt k hk).2 (fun e => ?_)
    obtain ⟨c1, e1⟩ := own_row1 hu k hk
    obtain ⟨c2, e2⟩ := own_row1 h1 k e.symm
    rw [e1] at e2
    simp at e2)
  refine ⟨rs ++ [r], by rw [List.length_append]; exact h', by simp [h2], fun k hk => ?_, fun j k hjk hk => ?_⟩
  · rw [List.length_append, List.length_cons, List.length_nil] at hk
    by_cases hkl : k < V.length
    · have e : (V ++ [l]).getD k [] = V.getD k [] := by
        rw [List.getD_eq_getElem?_getD, List.getD_eq_getElem?_getD, List.getElem?_append_left hkl]
      obtain ⟨ao', cap', a1, a2, a3⟩ := h3 k hkl
      rw [e, List.getElem?_append_left (by omega)]
      exact ⟨ao', cap', a1, a2, keep a3⟩
    · have e0 : k = V.length := by omega
      subst e0
      have e : (V ++ [l]).getD V.length [] = l := by
        rw [List.getD_eq_getElem?_getD, List.getElem?_append_right (Nat.le_refl _)]; simp
      rw [e, List.getElem?_append_right (by omega), h2, Nat.sub_self]
      refine ⟨ao, cap, by rw [hr]; rfl, hc, ?_⟩
      rw [← hr]
      exact keep ho
  · rw [List.length_append, List.length_cons, List.length_nil] at hk
    have el : ∀ q, q < V.length → (rs ++ [r]).getD q (.slice none 0 0) = rs.getD q (.slice none 0 0) := fun q hq => by
      rw [List.getD_eq_getElem?_getD, List.getD_eq_getElem?_getD, List.getElem?_append_left (by omega)]
    rw [el j (by omega)]
    by_cases hkl : k < V.length
    · rw [el k hkl]; exact h4 j k hjk hkl
    · have e : (rs ++ [r]).getD k (.slice none 0 0) = r := by
        rw [List.getD_eq_getElem?_getD, List.getElem?_append_right (by omega), show k - rs.length = 0 by omega]; rfl
      rw [e]
      exact h5 j (by omega)
/-- A number is stored into a row of the table. -/
theorem OTabS.store {w : World} {base g n cap : Nat} {V : List (List Int)} (h : OTabS w base (.slice (some ⟨g, 0, none⟩) n cap) V) {k i : Nat} (hk : k < V.length) (hi : i < (V.getD k []).length) :
    ∃ b c, w.cell? ⟨g, k, none⟩ = some (.slice (some ⟨b, 0, none⟩) (V.getD k []).length c) ∧ base ≤ b ∧ b < w.heap.size ∧ w.cell? ⟨b, i, none⟩ = some (.int .i64 ((V.getD k []).getD i 0)) ∧ w.frozen? ⟨b, i, none⟩ = false ∧ (∃ cs, w.heap[b]? = some (.cells cs 3 (0, 0))) ∧
      ∀ x : Int, OTabS (w.setCell ⟨b, i, none⟩ (.int .i64 x)) base (.slice (some ⟨g, 0, none⟩) n cap) (V.set k ((V.getD k []).set i x)) := by
  obtain ⟨rs, h1, h2, h3, h4⟩ := h.rows
  obtain ⟨g', cap', he, hgb, hgl, hnc, hc⟩ := own_cells h1 (by omega)
  cases he
  obtain ⟨ao, c, a1, a2, a3⟩ := h3 k hk
  obtain ⟨b, c', he, hb, hf, hcell, ⟨cs, hh⟩, hset⟩ := own_slot a3 (k := i) (by rw [List.length_map]; exact hi)
  cases he
  refine ⟨b, c, hc k _ a1, hb, heap_lt hh, ?_, hf, ⟨cs, hh⟩, fun x => ?_⟩
  · have e : ∀ (l : List Int) (h : i < l.length), l.getD i 0 = l[i] := fun l h => by rw [List.getD_eq_getElem?_getD, List.getElem?_eq_getElem h]; rfl
    rw [hcell, List.getElem_map, e _ hi]
  · refine ⟨rs, ?_, by rw [List.length_set]; exact h2, fun q hq => ?_, fun j q hjq hq => h4 j q hjq (by rw [List.length_set] at hq; exact hq)⟩
    · rw [List.length_set]
      exact own_setT h1 hh (by decide)
    · rw [List.length_set] at hq
      by_cases hqk : q = k
      · subst hqk
        have e : (V.set q ((V.getD q []).set i x)).getD q [] = (V.getD q []).set i x := by
          rw [List.getD_eq_getElem?_getD, List.getElem?_set_self hk]; rfl
        rw [e, List.length_set]
        refine ⟨_, c, a1, a2, ?_⟩
        have h9 := hset (.int .i64 x)
        rw [List.map_set]
        exact h9
      · have e : (V.set k ((V.getD k []).set i x)).getD q [] = V.getD q [] := by
          rw [List.getD_eq_getElem?_getD, List.getElem?_set_ne (fun e => hqk e.symm), ← List.getD_eq_getElem?_getD]
        obtain ⟨ao', cq, b1, b2, b3⟩ := h3 q hq
        rw [e]
        refine ⟨ao', cq, b1, b2, own_same b3 (fun z hz => heap_setCell_other w ⟨b, i, none⟩ z (.int .i64 x) (fun (e4 : z = b) => ?_))⟩
        subst e4
        have eq1 : (rs.getD q (.slice none 0 0)).ownBlock = some z := by rw [List.getD_eq_getElem?_getD, b1]; exact hz
        have eq2 : (rs.getD k (.slice none 0 0)).ownBlock = some z := by rw [List.getD_eq_getElem?_getD, a1]; rfl
        rcases Nat.lt_or_ge q k with h6 | h6
        · exact h4 q k h6 hk z eq1 eq2
        · exact h4 k q (by omega) hq z eq2 eq1

set_option maxRecDepth 100000 in
set_option maxHeartbeats 8000000 in
theorem kcopiedS_any (L : List Int) (V : List (List Int)) (aoL : Option Addr) (nL cL : Nat) (aoV : Option Addr) (nV cV : Nat) (w : World) (hf : Fld w aoL nL aoV nV L V) (hl : nL ≤ 100) (hv : nV ≤ 100) (hr : ∀ r ∈ V, r.length ≤ 100) :
    Calls Try.prog 114 #[.agg #[.slice aoL nL cL, .slice aoV nV cV]] w fun e w' => (∃ vL vV, e = .returned (.agg #[vL, vV]) ∧ w'.ownsRow w.heap.size 3 1 vL nL (L.map (Value.int .i64)) ∧ (∃ B, w.heap.size ≤ B ∧ (∀ g, vL.ownBlock = some g → g < B) ∧ OTabS w' B vV V)) ∧ Below w.heap.size w w' := by
  have HnL := Lib.hid hf.nl
  have HnV := Lib.hid hf.nv
  obtain ⟨i0, hi0, hz0, hz1, hz2⟩ := info_sl
  have hA := below_alloc2 w (.cells #[.slice aoL nL cL, .slice aoV nV cV] 57) (.cells #[.slice none 0 0, .slice none 0 0] 57)
  have rf := heap_alloc2_old w (.cells #[.slice aoL nL cL, .slice aoV nV cV] 57) (.cells #[.slice none 0 0, .slice none 0 0] 57)
  have rr := heap_alloc2_new w (.cells #[.slice aoL nL cL, .slice aoV nV cV] 57) (.cells #[.slice none 0 0, .slice none 0 0] 57)
  go_enter Try.func114, Try.ntmps114
  go_upto_region 1 with fail
  generalize (w.alloc (.cells #[.slice aoL nL cL, .slice aoV nV cV] 57)).alloc (.cells #[.slice none 0 0, .slice none 0 0] 57) = W0 at hA rf rr ⊢
  obtain ⟨G, hG⟩ : ∃ g, g = w.heap.size := ⟨_, rfl⟩
  rw [← hG] at rf rr ⊢
  have HG := Lib.hid hG
  clear hG
  replace hf := hf.below hA
  obtain ⟨⟨x0, x1⟩, -, -⟩ := row_fr rf
  go_wp2_with fail
  refine (cloneInts_any L aoL nL cL W0 hf.hL HnL.out (by omega)).mono ?_
  rintro e w1 ⟨⟨vL, rfl, hoL⟩, hbb⟩
  have hG1 : G + 1 < W0.heap.size := heap_lt rr
  replace hf := hf.below hbb
  replace rf := heap_keep hbb rf
  replace rr := heap_keep hbb rr
  have hsL := hA.size
  have hsW := hbb.size
  replace hA := hA.trans (hbb.mono hA.size)
  clear hbb x0 x1
  obtain ⟨aL, cL2, rfl, hcL, -⟩ := own_ints hoL HnL.out
  go_upto_region 2 with fail
  have r3 := heap_alloc_new w1 (.cells #[.slice aL nL cL2, .slice none 0 0] 57)
  have hal := (Below.refl w1.heap.size w1).alloc (Nat.le_refl _) (.cells #[.slice aL nL cL2, .slice none 0 0] 57)
  have hs3 : (w1.alloc (.cells #[.slice aL nL cL2, .slice none 0 0] 57)).heap.size = w1.heap.size + 1 := by simp
  generalize w1.alloc (.cells #[.slice aL nL cL2, .slice none 0 0] 57) = W3 at r3 hal hs3 ⊢
  obtain ⟨G3, hg3⟩ : ∃ g, g = w1.heap.size := ⟨_, rfl⟩
  rw [← hg3] at r3 hs3 ⊢
  have HG3 := Lib.hid hg3
  have hW13 : w1.heap.size ≤ W3.heap.size := hal.size
  have hG3w : w1.heap.size ≤ G3 := by omega
  clear hg3
  obtain ⟨⟨x0, x1⟩, -, -⟩ := row_fr (heap_keep hal rf)
  go_wp2_with fail
  clear x0 x1
  go_loopw [13] (fun i wr => ∃ (k : Nat) (av : Option Addr) (cv : Nat), k ≤ nV ∧ i = .int .i64 k ∧ wr.heap[G3]? = some (.cells #[.slice aL nL cL2, .slice av k cv] 57 (0, 0)) ∧ Hid (OTabS wr W3.heap.size (.slice av k cv) (V.take k)) ∧ W3.heap.size ≤ wr.heap.size ∧ Below w1.heap.size w1 wr) (fun i _ => nV - (intOf i).toNat)
  case atStart => exact ⟨0, none, 0, Nat.zero_le _, rfl, r3, Lib.hid otabS_none, Nat.le_refl _, hal⟩
  case round =>
    clear r3 hal
    obtain ⟨k, av, cv, hk, rfl, r3, hT, hsz, hb⟩ := hrel
    have hG3 : G3 < W3.heap.size := by omega
    by_cases hlt : k < nV
    · have hkV : k < V.length := by have := HnV.out; omega
      have i1 : (k : Int) < (nV : Int) := by omega
      obtain ⟨bV, oV, aoi, ci, rfl, zr, hci, hIk⟩ := (hf.below hb).hV.at hkV
      have hrk := hr (V.getD k []) (by rw [List.getD_eq_getElem?_getD, List.getElem?_eq_getElem hkV]; exact List.getElem_mem hkV)
      have Hts := Lib.hid (show V.take (k + 1) = V.take k ++ [V.getD k []] by rw [List.take_succ_eq_append_getElem hkV, List.getD_eq_getElem?_getD, List.getElem?_eq_getElem hkV]; rfl)
      have Htk := Lib.hid (show (V.take k).length = k by rw [List.length_take]; omega)
      obtain ⟨lk, hlk⟩ : ∃ l, l = V.getD k [] := ⟨_, rfl⟩
      rw [← hlk] at zr hci hIk hrk Hts
      clear hlk
      obtain ⟨m, hm⟩ : ∃ m, m = lk.length := ⟨_, rfl⟩
      have Hm := Lib.hid hm
      rw [← hm] at zr hci hrk
      clear hm
      obtain ⟨⟨y0, y1⟩, -, -⟩ := row_fr r3
      go_upto_region 5 with fail
      have hdr : Below wr.heap.size wr wr.drew := below_drewN (Below.refl wr.heap.size wr) 1
      refine wp_region_held_drew (S := fun _ => True) (by kernel_rfl) trivial (fun hHeld => ?_)
      refine wpAnyH_take (i := 0) (v := .pointer (some ⟨G3, 1, none⟩)) rfl (by kernel_rfl) (by kernel_rfl) (by kernel_rfl) (fun _ _ _ h => h) (Or.inl ⟨by rfl, fun w hSw => ?_⟩) (by assumption) ?_
      · obtain ⟨⟩ := hSw
        (go_simp <;> omega)
      try simp only [List.getElem_toArray, List.getElem_cons_zero, Act.put, List.setIfInBounds_toArray, List.set_cons_zero, List.set_cons_succ]
      refine wpAnyH_take (i := 2) (v := .slice aoi m ci) rfl (by kernel_rfl) (by kernel_rfl) (by kernel_rfl) (fun _ _ _ h => h) (Or.inl ⟨by rfl, fun w hSw => ?_⟩) (by assumption) ?_
      · obtain ⟨⟩ := hSw
        (go_simp <;> omega)
      try simp only [List.getElem_toArray, List.getElem_cons_zero, List.getElem_cons_succ, Act.put, List.setIfInBounds_toArray, List.set_cons_zero, List.set_cons_succ]
      refine wpAnyH_ready (rs := [1, 3]) (by kernel_rfl) (by simp) ?_
      refine AllReadyH.cons rfl (fun K hK => ?_) (AllReadyH.cons rfl (fun K hK => ?_) AllReadyH.nil)
      · have y1d := keep_cell hdr y1
        go_simp
        (try dsimp only)
        refine hK.out _ _ trivial (fun hHeld => ?_)
        clear hK K
        try simp only [List.getElem_toArray, List.getElem_cons_zero, List.getElem_cons_succ, Act.put, List.setIfInBounds_toArray, List.set_cons_zero, List.set_cons_succ]
        refine wpAnyH_ready (rs := [3]) (by kernel_rfl) (by simp) ?_
        refine AllReadyH.cons rfl (fun K hK => ?_) AllReadyH.nil
        go_simp
        go_at_call 152
        refine (cloneInts_any lk aoi m ci _ (hIk.below hdr) Hm.out (by omega)).mono ?_
        rintro e u1 ⟨⟨r, rfl, hor⟩, hb1⟩
        obtain ⟨ar, cr, rfl, hcr, -⟩ := own_ints hor Hm.out
        have hb1' := hdr.trans (hb1.mono hdr.size)
        (try dsimp only)
        refine hK.out _ _ trivial (fun hHeld => ?_)
        clear hK K
        try simp only [List.getElem_toArray, List.getElem_cons_zero, List.getElem_cons_succ, Act.put, List.setIfInBounds_toArray, List.set_cons_zero, List.set_cons_succ]
        refine wpAnyH_ready (rs := [4]) (by kernel_rfl) (by simp) ?_
        refine AllReadyH.cons rfl (fun K hK => ?_) AllReadyH.nil
        go_simp
        (try dsimp only)
        refine hK.out _ _ trivial (fun hHeld => ?_)
        clear hK K
        try simp only [List.getElem_toArray, List.getElem_cons_zero, List.getElem_cons_succ, Act.put, List.setIfInBounds_toArray, List.set_cons_zero, List.set_cons_succ]
        have hbx := hb1'.alloc hb1'.size (.cells #[.slice ar m cr] 39)
        have hb2 := (Below.refl u1.heap.size u1).alloc (Nat.le_refl _) (.cells #[.slice ar m cr] 39)
        obtain ⟨rs, t1w, t2, t3w, t4⟩ := hT.out.rows
        have t1 := own_below t1w hbx
        have t3 := rows_below t3w hbx
        have t5 : ∀ q (_ : q < (V.take k).length) g, (rs.getD q (.slice none 0 0)).ownBlock = some g → (Value.slice ar m cr).ownBlock ≠ some g := fun q hq g h1 h2 => by
          have := rows_lt t3w hq h1
          have := (hor.lt g h2).1
          have := hdr.size
          omega
        rw [Htk.out] at t1 t2
        refine wpAnyH_ready (rs := [5]) (by kernel_rfl) (by simp) ?_
        refine AllReadyH.cons rfl (fun K hK => ?_) AllReadyH.nil
        rw [if_pos (by rfl)]
        refine wp_append_own _ _ _ _ (by rfl) W3.heap.size 39 i0 (.slice none 0 0) 1 24 Try.underlying55 hi0 hz0 hz1 hz2 rfl (by decide) _ k rs (by rfl) t1 ⟨u1.heap.size, 0, none⟩ 1 1 [.slice ar m cr] (by rfl) rfl (World.news_of_block (cs := #[.slice ar m cr]) (t := 39) (fr := (0, 0)) (heap_alloc_new u1 _)) (by simp [Value.oneCell']) (by unfold maxLen; omega) (by omega) (Nat.le_trans hsz hbx.size) ?_
        intro v1 z6 ho1 hg1 _
        obtain ⟨gv, c9, rfl, -, -, -, -⟩ := own_cells ho1 (by omega)
        have hT2 : OTabS z6 W3.heap.size (.slice (some ⟨gv, 0, none⟩) (k + 1) c9) (V.take k ++ [lk]) := otabS_push (r := .slice ar m cr) (rs := rs) (V := V.take k) (by rw [Htk.out]; exact t1) (by rw [Htk.out]; exact t2) t3 t4 t5 (by rw [Hm.out]) (by rw [← Hm.out]; exact hcr) (by rw [← Hm.out]; exact own_mono (own_below hor hb2) (Nat.le_trans hsz hdr.size)) hg1 (by rw [Htk.out]; exact ho1)
        have hb6 : Below W3.heap.size wr z6 := (hbx.mono hsz).grown hg1 (Nat.le_trans hsz hbx.size) (fun q hq => (t1.lt q hq).1)
        have r3z := (hb6.block G3 hG3).trans r3
        obtain ⟨⟨c0, c1⟩, g0, g1⟩ := row_fr r3z
        have r3n := snd_cell r3z (.slice (some ⟨gv, 0, none⟩) (k + 1) c9)
        have hTn := hT2.set (o := 1) (u := .slice (some ⟨gv, 0, none⟩) (k + 1) c9) hG3
        have hBz := below_setCell (g := G3) (o := 1) (hb.trans (hb6.mono hW13)) (by omega) (.slice (some ⟨gv, 0, none⟩) (k + 1) c9)
        (try dsimp only)
        refine hK.out _ _ trivial (fun hHeld => ?_)
        clear hK K
        try simp only [List.getElem_toArray, List.getElem_cons_zero, List.getElem_cons_succ, Act.put, List.setIfInBounds_toArray, List.set_cons_zero, List.set_cons_succ]
        have HZ6 := Lib.hid hb6.size
        refine wpAnyH_take (i := 6) (v := .pointer (some ⟨G3, 1, none⟩)) rfl (by kernel_rfl) (by kernel_rfl) (by kernel_rfl) (fun _ _ _ h => h) (Or.inl ⟨by rfl, fun w hSw => ?_⟩) (by assumption) ?_
        · obtain ⟨⟩ := hSw
          (go_simp <;> omega)
        try simp only [List.getElem_toArray, List.getElem_cons_zero, List.getElem_cons_succ, Act.put, List.setIfInBounds_toArray, List.set_cons_zero, List.set_cons_succ]
        refine wpAnyH_ready (rs := [7]) (by kernel_rfl) (by simp) ?_
        refine AllReadyH.cons rfl (fun K hK => ?_) AllReadyH.nil
        go_simp
        (try dsimp only)
        refine hK.out _ _ trivial (fun hHeld => ?_)
        clear hK K
        try simp only [List.getElem_toArray, List.getElem_cons_zero, List.getElem_cons_succ, Act.put, List.setIfInBounds_toArray, List.set_cons_zero, List.set_cons_succ]
        refine wpAnyH_done (by kernel_rfl) ?_ _
        go_wp2_with fail
        go_roundw
        case rel => exact ⟨k + 1, some ⟨gv, 0, none⟩, c9, by omega, by go_num, r3n, Lib.hid (by rw [Hts.out]; exact hTn), by have := HZ6.out; simp [World.setCell]; omega, hBz⟩
        case measure => simp [intOf]; omega
      · go_simp
        go_at_call 152
        refine (cloneInts_any lk aoi m ci _ (hIk.below hdr) Hm.out (by omega)).mono ?_
        rintro e u1 ⟨⟨r, rfl, hor⟩, hb1⟩
        obtain ⟨ar, cr, rfl, hcr, -⟩ := own_ints hor Hm.out
        have hb1' := hdr.trans (hb1.mono hdr.size)
        (try dsimp only)
        refine hK.out _ _ trivial (fun hHeld => ?_)
        clear hK K
        try simp only [List.getElem_toArray, List.getElem_cons_zero, List.getElem_cons_succ, Act.put, List.setIfInBounds_toArray, List.set_cons_zero, List.set_cons_succ]
        refine wpAnyH_ready (rs := [1, 4]) (by kernel_rfl) (by simp) ?_
        refine AllReadyH.cons rfl (fun K hK => ?_) (AllReadyH.cons rfl (fun K hK => ?_) AllReadyH.nil)
        · have y1d := keep_cell hb1' y1
          go_simp
          (try dsimp only)
          refine hK.out _ _ trivial (fun hHeld => ?_)
          clear hK K
          try simp only [List.getElem_toArray, List.getElem_cons_zero, List.getElem_cons_succ, Act.put, List.setIfInBounds_toArray, List.set_cons_zero, List.set_cons_succ]
          refine wpAnyH_ready (rs := [4]) (by kernel_rfl) (by simp) ?_
          refine AllReadyH.cons rfl (fun K hK => ?_) AllReadyH.nil
          go_simp
          (try dsimp only)
          refine hK.out _ _ trivial (fun hHeld => ?_)
          clear hK K
          try simp only [List.getElem_toArray, List.getElem_cons_zero, List.getElem_cons_succ, Act.put, List.setIfInBounds_toArray, List.set_cons_zero, List.set_cons_succ]
          have hbx := hb1'.alloc hb1'.size (.cells #[.slice ar m cr] 39)
          have hb2 := (Below.refl u1.heap.size u1).alloc (Nat.le_refl _) (.cells #[.slice ar m cr] 39)
          obtain ⟨rs, t1w, t2, t3w, t4⟩ := hT.out.rows
          have t1 := own_below t1w hbx
          have t3 := rows_below t3w hbx
          have t5 : ∀ q (_ : q < (V.take k).length) g, (rs.getD q (.slice none 0 0)).ownBlock = some g → (Value.slice ar m cr).ownBlock ≠ some g := fun q hq g h1 h2 => by
            have := rows_lt t3w hq h1
            have := (hor.lt g h2).1
            have := hdr.size
            omega
          rw [Htk.out] at t1 t2
          refine wpAnyH_ready (rs := [5]) (by kernel_rfl) (by simp) ?_
          refine AllReadyH.cons rfl (fun K hK => ?_) AllReadyH.nil
          rw [if_pos (by rfl)]
          refine wp_append_own _ _ _ _ (by rfl) W3.heap.size 39 i0 (.slice none 0 0) 1 24 Try.underlying55 hi0 hz0 hz1 hz2 rfl (by decide) _ k rs (by rfl) t1 ⟨u1.heap.size, 0, none⟩ 1 1 [.slice ar m cr] (by rfl) rfl (World.news_of_block (cs := #[.slice ar m cr]) (t := 39) (fr := (0, 0)) (heap_alloc_new u1 _)) (by simp [Value.oneCell']) (by unfold maxLen; omega) (by omega) (Nat.le_trans hsz hbx.size) ?_
          intro v1 z6 ho1 hg1 _
          obtain ⟨gv, c9, rfl, -, -, -, -⟩ := own_cells ho1 (by omega)
          have hT2 : OTabS z6 W3.heap.size (.slice (some ⟨gv, 0, none⟩) (k + 1) c9) (V.take k ++ [lk]) := otabS_push (r := .slice ar m cr) (rs := rs) (V := V.take k) (by rw [Htk.out]; exact t1) (by rw [Htk.out]; exact t2) t3 t4 t5 (by rw [Hm.out]) (by rw [← Hm.out]; exact hcr) (by rw [← Hm.out]; exact own_mono (own_below hor hb2) (Nat.le_trans hsz hdr.size)) hg1 (by rw [Htk.out]; exact ho1)
          have hb6 : Below W3.heap.size wr z6 := (hbx.mono hsz).grown hg1 (Nat.le_trans hsz hbx.size) (fun q hq => (t1.lt q hq).1)
          have r3z := (hb6.block G3 hG3).trans r3
          obtain ⟨⟨c0, c1⟩, g0, g1⟩ := row_fr r3z
          have r3n := snd_cell r3z (.slice (some ⟨gv, 0, none⟩) (k + 1) c9)
          have hTn := hT2.set (o := 1) (u := .slice (some ⟨gv, 0, none⟩) (k + 1) c9) hG3
          have hBz := below_setCell (g := G3) (o := 1) (hb.trans (hb6.mono hW13)) (by omega) (.slice (some ⟨gv, 0, none⟩) (k + 1) c9)
          (try dsimp only)
          refine hK.out _ _ trivial (fun hHeld => ?_)
          clear hK K
          try simp only [List.getElem_toArray, List.getElem_cons_zero, List.getElem_cons_succ, Act.put, List.setIfInBounds_toArray, List.set_cons_zero, List.set_cons_succ]
          have HZ6 := Lib.hid hb6.size
          refine wpAnyH_take (i := 6) (v := .pointer (some ⟨G3, 1, none⟩)) rfl (by kernel_rfl) (by kernel_rfl) (by kernel_rfl) (fun _ _ _ h => h) (Or.inl ⟨by rfl, fun w hSw => ?_⟩) (by assumption) ?_
          · obtain ⟨⟩ := hSw
            (go_simp <;> omega)
          try simp only [List.getElem_toArray, List.getElem_cons_zero, List.getElem_cons_succ, Act.put, List.setIfInBounds_toArray, List.set_cons_zero, List.set_cons_succ]
          refine wpAnyH_ready (rs := [7]) (by kernel_rfl) (by simp) ?_
          refine AllReadyH.cons rfl (fun K hK => ?_) AllReadyH.nil
          go_simp
          (try dsimp only)
          refine hK.out _ _ trivial (fun hHeld => ?_)
          clear hK K
          try simp only [List.getElem_toArray, List.getElem_cons_zero, List.getElem_cons_succ, Act.put, List.setIfInBounds_toArray, List.set_cons_zero, List.set_cons_succ]
          refine wpAnyH_done (by kernel_rfl) ?_ _
          go_wp2_with fail
          go_roundw
          case rel => exact ⟨k + 1, some ⟨gv, 0, none⟩, c9, by omega, by go_num, r3n, Lib.hid (by rw [Hts.out]; exact hTn), by have := HZ6.out; simp [World.setCell]; omega, hBz⟩
          case measure => simp [intOf]; omega
        · go_simp
          (try dsimp only)
          refine hK.out _ _ trivial (fun hHeld => ?_)
          clear hK K
          try simp only [List.getElem_toArray, List.getElem_cons_zero, List.getElem_cons_succ, Act.put, List.setIfInBounds_toArray, List.set_cons_zero, List.set_cons_succ]
          have y1d := keep_cell (hb1'.alloc hb1'.size (.cells #[.slice ar m cr] 39)) y1
          refine wpAnyH_ready (rs := [1]) (by kernel_rfl) (by simp) ?_
          refine AllReadyH.cons rfl (fun K hK => ?_) AllReadyH.nil
          go_simp
          (try dsimp only)
          refine hK.out _ _ trivial (fun hHeld => ?_)
          clear hK K
          try simp only [List.getElem_toArray, List.getElem_cons_zero, List.getElem_cons_succ, Act.put, List.setIfInBounds_toArray, List.set_cons_zero, List.set_cons_succ]
          have hbx := hb1'.alloc hb1'.size (.cells #[.slice ar m cr] 39)
          have hb2 := (Below.refl u1.heap.size u1).alloc (Nat.le_refl _) (.cells #[.slice ar m cr] 39)
          obtain ⟨rs, t1w, t2, t3w, t4⟩ := hT.out.rows
          have t1 := own_below t1w hbx
          have t3 := rows_below t3w hbx
          have t5 : ∀ q (_ : q < (V.take k).length) g, (rs.getD q (.slice none 0 0)).ownBlock = some g → (Value.slice ar m cr).ownBlock ≠ some g := fun q hq g h1 h2 => by
            have := rows_lt t3w hq h1
            have := (hor.lt g h2).1
            have := hdr.size
            omega
          rw [Htk.out] at t1 t2
          refine wpAnyH_ready (rs := [5]) (by kernel_rfl) (by simp) ?_
          refine AllReadyH.cons rfl (fun K hK => ?_) AllReadyH.nil
          rw [if_pos (by rfl)]
          refine wp_append_own _ _ _ _ (by rfl) W3.heap.size 39 i0 (.slice none 0 0) 1 24 Try.underlying55 hi0 hz0 hz1 hz2 rfl (by decide) _ k rs (by rfl) t1 ⟨u1.heap.size, 0, none⟩ 1 1 [.slice ar m cr] (by rfl) rfl (World.news_of_block (cs := #[.slice ar m cr]) (t := 39) (fr := (0, 0)) (heap_alloc_new u1 _)) (by simp [Value.oneCell']) (by unfold maxLen; omega) (by omega) (Nat.le_trans hsz hbx.size) ?_
          intro v1 z6 ho1 hg1 _
          obtain ⟨gv, c9, rfl, -, -, -, -⟩ := own_cells ho1 (by omega)
          have hT2 : OTabS z6 W3.heap.size (.slice (some ⟨gv, 0, none⟩) (k + 1) c9) (V.take k ++ [lk]) := otabS_push (r := .slice ar m cr) (rs := rs) (V := V.take k) (by rw [Htk.out]; exact t1) (by rw [Htk.out]; exact t2) t3 t4 t5 (by rw [Hm.out]) (by rw [← Hm.out]; exact hcr) (by rw [← Hm.out]; exact own_mono (own_below hor hb2) (Nat.le_trans hsz hdr.size)) hg1 (by rw [Htk.out]; exact ho1)
          have hb6 : Below W3.heap.size wr z6 := (hbx.mono hsz).grown hg1 (Nat.le_trans hsz hbx.size) (fun q hq => (t1.lt q hq).1)
          have r3z := (hb6.block G3 hG3).trans r3
          obtain ⟨⟨c0, c1⟩, g0, g1⟩ := row_fr r3z
          have r3n := snd_cell r3z (.slice (some ⟨gv, 0, none⟩) (k + 1) c9)
          have hTn := hT2.set (o := 1) (u := .slice (some ⟨gv, 0, none⟩) (k + 1) c9) hG3
          have hBz := below_setCell (g := G3) (o := 1) (hb.trans (hb6.mono hW13)) (by omega) (.slice (some ⟨gv, 0, none⟩) (k + 1) c9)
          (try dsimp only)
          refine hK.out _ _ trivial (fun hHeld => ?_)
          clear hK K
          try simp only [List.getElem_toArray, List.getElem_cons_zero, List.getElem_cons_succ, Act.put, List.setIfInBounds_toArray, List.set_cons_zero, List.set_cons_succ]
          have HZ6 := Lib.hid hb6.size
          refine wpAnyH_take (i := 6) (v := .pointer (some ⟨G3, 1, none⟩)) rfl (by kernel_rfl) (by kernel_rfl) (by kernel_rfl) (fun _ _ _ h => h) (Or.inl ⟨by rfl, fun w hSw => ?_⟩) (by assumption) ?_
          · obtain ⟨⟩ := hSw
            (go_simp <;> omega)
          try simp only [List.getElem_toArray, List.getElem_cons_zero, List.getElem_cons_succ, Act.put, List.setIfInBounds_toArray, List.set_cons_zero, List.set_cons_succ]
          refine wpAnyH_ready (rs := [7]) (by kernel_rfl) (by simp) ?_
          refine AllReadyH.cons rfl (fun K hK => ?_) AllReadyH.nil
          go_simp
          (try dsimp only)
          refine hK.out _ _ trivial (fun hHeld => ?_)
          clear hK K
          try simp only [List.getElem_toArray, List.getElem_cons_zero, List.getElem_cons_succ, Act.put, List.setIfInBounds_toArray, List.set_cons_zero, List.set_cons_succ]
          refine wpAnyH_done (by kernel_rfl) ?_ _
          go_wp2_with fail
          go_roundw
          case rel => exact ⟨k + 1, some ⟨gv, 0, none⟩, c9, by omega, by go_num, r3n, Lib.hid (by rw [Hts.out]; exact hTn), by have := HZ6.out; simp [World.setCell]; omega, hBz⟩
          case measure => simp [intOf]; omega
    · have hk2 : k = nV := by omega
      have hTF := hT.out
      rw [show V.take k = V by rw [hk2, HnV.out, List.take_length]] at hTF
      have Hk := Lib.hid hk2
      have hAr := hA.trans (hb.mono hA.size)
      have rrr := heap_keep hb rr
      have hoLr := own_below hoL hb
      clear hk2 hT
      obtain ⟨⟨y0, y1⟩, -, -⟩ := row_fr r3
      obtain ⟨⟨r0, r1⟩, s0, s1⟩ := row_fr rrr
      go_wp2_with fail
      have hGw := HG.out
      refine bodyPost_ret (results_cell_row rfl _ _ _ _ _ _ _ rfl (two_cells rrr (.slice aL nL cL2) (.slice av k cv)) Try.underlying57 rfl kinfoFd2) rfl ⟨⟨_, _, rfl, ?_, ?_⟩, below_setCell (below_setCell hAr (by omega) _) (by omega) _⟩
      · exact own_same (own_mono hoLr hsL) (fun q hq => heap_two_eq0 (.slice aL nL cL2) (.slice av k cv) (show q ≠ G + 1 by have := (hoLr.lt q hq).1; omega))
      · exact ⟨W3.heap.size, by omega, fun g hg => by have := (hoL.lt g hg).2; omega, (hTF.set (g := G + 1) (by omega)).set (g := G + 1) (by omega)⟩

set_option maxRecDepth 100000 in
set_option maxHeartbeats 8000000 in
theorem sCopyS_any (L : List Int) (V : List (List Int)) (aoL : Option Addr) (nL cL : Nat) (aoV : Option Addr) (nV cV : Nat) (w : World) (hf : Fld w aoL nL aoV nV L V) (hl : nL ≤ 100) (hv : nV ≤ 100) (hr : ∀ r ∈ V, r.length ≤ 100) :
    Calls Try.prog 54 #[.agg #[.slice aoL nL cL, .slice aoV nV cV]] w fun e w' => (∃ vL vV, e = .returned (.agg #[vL, vV]) ∧ w'.ownsRow w.heap.size 3 1 vL nL (L.map (Value.int .i64)) ∧ (∃ B, w.heap.size ≤ B ∧ (∀ g, vL.ownBlock = some g → g < B) ∧ OTabS w' B vV V)) ∧ Below w.heap.size w w' := by
  have HnL := Lib.hid hf.nl
  have HnV := Lib.hid hf.nv
  obtain ⟨i0, hi0, hz0, hz1, hz2⟩ := info_sl
  obtain ⟨i9, hi9, hy0, hy1, hy2⟩ := info_in
  have hA := below_alloc2 w (.cells #[.slice aoL nL cL, .slice aoV nV cV] 57) (.cells #[.slice none 0 0, .slice none 0 0] 57)
  have rf := heap_alloc2_old w (.cells #[.slice aoL nL cL, .slice aoV nV cV] 57) (.cells #[.slice none 0 0, .slice none 0 0] 57)
  have rr := heap_alloc2_new w (.cells #[.slice aoL nL cL, .slice aoV nV cV] 57) (.cells #[.slice none 0 0, .slice none 0 0] 57)
  go_enter Try.func54, Try.ntmps54
  go_upto_region 1 with fail
  generalize (w.alloc (.cells #[.slice aoL nL cL, .slice aoV nV cV] 57)).alloc (.cells #[.slice none 0 0, .slice none 0 0] 57) = W0 at hA rf rr ⊢
  obtain ⟨G, hG⟩ : ∃ g, g = w.heap.size := ⟨_, rfl⟩
  rw [← hG] at rf rr ⊢
  have HG := Lib.hid hG
  clear hG
  have hG1 : G + 1 < W0.heap.size := heap_lt rr
  replace hf := hf.below hA
  have hsL := hA.size
  obtain ⟨⟨x0, x1⟩, -, -⟩ := row_fr rf
  have halE := (Below.refl W0.heap.size W0).alloc (Nat.le_refl _) (.cells #[] 3)
  obtain ⟨⟨xe0, xe1⟩, -, -⟩ := row_fr (heap_keep halE rf)
  have hIe := hf.hL.below halE
  go_upto_region 2 with (first | (at_builtin; refine wpList_plain rfl fun K hK => ?_; refine wp_copy _ _ 39 3 (by rfl) i9 (.int .i64 0) 1 8 Try.underlying39 hi9 hy0 hy1 hy2 rfl (by decide) W0.heap.size W0.heap.size (by rfl) (heap_alloc_new W0 _) (Nat.le_refl _) (by simp) aoL nL cL (L.map (Value.int .i64)) (by rfl) (by rw [List.length_map, HnL.out]; omega) (fun e => by rw [HnL.out]; exact ints_null hIe e) (fun ad e => ints_flat (by rw [← e]; exact hIe)) (by unfold maxLen; omega) (by omega) ?_; intro vL w1 hoL hbL; obtain ⟨aL, cL2, rfl, -, -⟩ := own_ints hoL HnL.out; refine hK _ _ ?_))
  have hbW := halE.trans (hbL.mono halE.size)
  replace hf := hf.below hbW
  replace rf := heap_keep hbW rf
  replace rr := heap_keep hbW rr
  replace hA := hA.trans (hbW.mono hA.size)
  have hsW := hbW.size
  clear halE hbL hbW hIe x0 x1 xe0 xe1
  have r3 := heap_alloc_new w1 (.cells #[.slice aL nL cL2, .slice none 0 0] 57)
  have hal := (Below.refl w1.heap.size w1).alloc (Nat.le_refl _) (.cells #[.slice aL nL cL2, .slice none 0 0] 57)
  have hs3 : (w1.alloc (.cells #[.slice aL nL cL2, .slice none 0 0] 57)).heap.size = w1.heap.size + 1 := by simp
  generalize w1.alloc (.cells #[.slice aL nL cL2, .slice none 0 0] 57) = W3 at r3 hal hs3 ⊢
  obtain ⟨G3, hg3⟩ : ∃ g, g = w1.heap.size := ⟨_, rfl⟩
  rw [← hg3] at r3 hs3 ⊢
  have HG3 := Lib.hid hg3
  have hW13 : w1.heap.size ≤ W3.heap.size := hal.size
  have hG3w : w1.heap.size ≤ G3 := by omega
  clear hg3
  go_wp2_with fail
  go_loopw [4] (fun i wr => ∃ (k : Nat) (av : Option Addr) (cv : Nat), k ≤ nV ∧ i = .int .i64 k ∧ wr.heap[G3]? = some (.cells #[.slice aL nL cL2, .slice av k cv] 57 (0, 0)) ∧ Hid (OTabS wr W3.heap.size (.slice av k cv) (V.take k)) ∧ W3.heap.size ≤ wr.heap.size ∧ Below w1.heap.size w1 wr) (fun i _ => nV - (intOf i).toNat)
  case atStart => exact ⟨0, none, 0, Nat.zero_le _, rfl, r3, Lib.hid otabS_none, Nat.le_refl _, hal⟩
  case round =>
    clear r3 hal
    obtain ⟨k, av, cv, hk, rfl, r3, hT, hsz, hb⟩ := hrel
    have hG3 : G3 < W3.heap.size := by omega
    obtain ⟨⟨x0, x1⟩, -, -⟩ := row_fr (heap_keep hb rf)
    have hGw1 : G + 1 < w1.heap.size := heap_lt rr
    by_cases hlt : k < nV
    · have hkV : k < V.length := by have := HnV.out; omega
      have i1 : (k : Int) < (nV : Int) := by omega
      obtain ⟨bV, oV, aoi, ci, hav, zr, hci, hIk⟩ := (hf.below hb).hV.at hkV
      have hbV1 : bV < w1.heap.size := by
        obtain ⟨b', o', _, _, e', z', -, -⟩ := hf.hV.at hkV
        rw [hav] at e'
        cases e'
        exact block_lt_of_cell z'
      subst hav
      have hrk := hr (V.getD k []) (by rw [List.getD_eq_getElem?_getD, List.getElem?_eq_getElem hkV]; exact List.getElem_mem hkV)
      have Hts := Lib.hid (show V.take (k + 1) = V.take k ++ [V.getD k []] by rw [List.take_succ_eq_append_getElem hkV, List.getD_eq_getElem?_getD, List.getElem?_eq_getElem hkV]; rfl)
      have Htk := Lib.hid (show (V.take k).length = k by rw [List.length_take]; omega)
      obtain ⟨lk, hlk⟩ : ∃ l, l = V.getD k [] := ⟨_, rfl⟩
      rw [← hlk] at zr hci hIk hrk Hts
      clear hlk
      obtain ⟨m, hm⟩ : ∃ m, m = lk.length := ⟨_, rfl⟩
      have Hm := Lib.hid hm
      rw [← hm] at zr hci hrk
      clear hm
      have hmI : ((m : Int)).toNat = m := Int.toNat_natCast m
      obtain ⟨⟨y0, y1⟩, -, -⟩ := row_fr r3
      go_upto_region 5 with fail
      have hdr : Below wr.heap.size wr wr.drew := below_drewN (Below.refl wr.heap.size wr) 1
      have hS0 := And.intro x1 zr
      refine wp_region_held_drew (S := fun w' => w'.cell? ⟨G, 1, none⟩ = some (.slice (some ⟨bV, oV, none⟩) nV cV) ∧ w'.cell? ⟨bV, oV + k, none⟩ = some (.slice aoi m ci)) (by kernel_rfl) ⟨keep_cell hdr x1, keep_cell hdr zr⟩ (fun hHeld => ?_)
      refine wpAnyH_take (i := 0) (v := .pointer (some ⟨G3, 1, none⟩)) rfl (by kernel_rfl) (by kernel_rfl) (by kernel_rfl) (fun _ _ _ h => h) (Or.inl ⟨by rfl, fun w hSw => ?_⟩) (by assumption) ?_
      · obtain ⟨s0, s1⟩ := hSw
        (go_simp <;> omega)
      try simp only [List.getElem_toArray, List.getElem_cons_zero, Act.put, List.setIfInBounds_toArray, List.set_cons_zero, List.set_cons_succ]
      refine wpAnyH_take (i := 3) (v := .pointer (some ⟨G, 1, none⟩)) rfl (by kernel_rfl) (by kernel_rfl) (by kernel_rfl) (fun _ _ _ h => h) (Or.inl ⟨by rfl, fun w hSw => ?_⟩) (by assumption) ?_
      · obtain ⟨s0, s1⟩ := hSw
        (go_simp <;> omega)
      try simp only [List.getElem_toArray, List.getElem_cons_zero, List.getElem_cons_succ, Act.put, List.setIfInBounds_toArray, List.set_cons_zero, List.set_cons_succ]
      refine wpAnyH_take (i := 4) (v := .slice (some ⟨bV, oV, none⟩) nV cV) rfl (by kernel_rfl) (by kernel_rfl) (by kernel_rfl) (fun _ _ _ h => h) (Or.inl ⟨by rfl, fun w hSw => ?_⟩) (by assumption) ?_
      · obtain ⟨s0, s1⟩ := hSw
        (go_simp <;> omega)
      try simp only [List.getElem_toArray, List.getElem_cons_zero, List.getElem_cons_succ, Act.put, List.setIfInBounds_toArray, List.set_cons_zero, List.set_cons_succ]
      refine wpAnyH_take (i := 5) (v := .int .i64 k) rfl (by kernel_rfl) (by kernel_rfl) (by kernel_rfl) (fun _ _ _ h => h) (Or.inl ⟨by rfl, fun w hSw => ?_⟩) (by assumption) ?_
      · obtain ⟨s0, s1⟩ := hSw
        (go_simp <;> omega)
      try simp only [List.getElem_toArray, List.getElem_cons_zero, List.getElem_cons_succ, Act.put, List.setIfInBounds_toArray, List.set_cons_zero, List.set_cons_succ]
      refine wpAnyH_take (i := 6) (v := .pointer (some ⟨bV, oV + k, none⟩)) rfl (by kernel_rfl) (by kernel_rfl) (by kernel_rfl) (fun _ _ _ h => h) (Or.inl ⟨by rfl, fun w hSw => ?_⟩) (by assumption) ?_
      · obtain ⟨s0, s1⟩ := hSw
        (go_simp <;> omega)
      try simp only [List.getElem_toArray, List.getElem_cons_zero, List.getElem_cons_succ, Act.put, List.setIfInBounds_toArray, List.set_cons_zero, List.set_cons_succ]
      refine wpAnyH_take (i := 7) (v := .slice aoi m ci) rfl (by kernel_rfl) (by kernel_rfl) (by kernel_rfl) (fun _ _ _ h => h) (Or.inl ⟨by rfl, fun w hSw => ?_⟩) (by assumption) ?_
      · obtain ⟨s0, s1⟩ := hSw
        (go_simp <;> omega)
      try simp only [List.getElem_toArray, List.getElem_cons_zero, List.getElem_cons_succ, Act.put, List.setIfInBounds_toArray, List.set_cons_zero, List.set_cons_succ]
      refine wpAnyH_ready (rs := [1, 2]) (by kernel_rfl) (by simp) ?_
      refine AllReadyH.cons rfl (fun K hK => ?_) (AllReadyH.cons rfl (fun K hK => ?_) AllReadyH.nil)
      · have y1d := keep_cell hdr y1
        go_simp
        (try dsimp only)
        refine hK.out _ _ ⟨keep_cell hdr x1, keep_cell hdr zr⟩ (fun hHeld => ?_)
        clear hK K
        try simp only [List.getElem_toArray, List.getElem_cons_zero, List.getElem_cons_succ, Act.put, List.setIfInBounds_toArray, List.set_cons_zero, List.set_cons_succ]
        refine wpAnyH_ready (rs := [2]) (by kernel_rfl) (by simp) ?_
        refine AllReadyH.cons rfl (fun K hK => ?_) AllReadyH.nil
        go_simp
        have hde := hdr.alloc hdr.size (.cells #[] 3)
        (try dsimp only)
        refine hK.out _ _ ⟨keep_cell hde x1, keep_cell hde zr⟩ (fun hHeld => ?_)
        clear hK K
        try simp only [List.getElem_toArray, List.getElem_cons_zero, List.getElem_cons_succ, Act.put, List.setIfInBounds_toArray, List.set_cons_zero, List.set_cons_succ]
        refine wpAnyH_ready (rs := [8]) (by kernel_rfl) (by simp) ?_
        refine AllReadyH.cons rfl (fun K hK => ?_) AllReadyH.nil
        rw [if_pos (by rfl)]
        refine wp_copy _ _ 39 3 (by rfl) i9 (.int .i64 0) 1 8 Try.underlying39 hi9 hy0 hy1 hy2 rfl (by decide) wr.heap.size wr.heap.size (by rfl) (heap_alloc_new wr.drew _) (Nat.le_refl _) hde.size aoi m ci (lk.map (Value.int .i64)) (by rfl) (by rw [List.length_map, Hm.out]; omega) (fun e => by rw [Hm.out]; exact ints_null hIk e) (fun ad e => ints_flat (by rw [← e]; exact hIk.below hde)) (by unfold maxLen; omega) (by omega) ?_
        intro v8 u1 hor hb8
        obtain ⟨ar, cr, rfl, hcr, -⟩ := own_ints hor Hm.out
        have hdu := hde.trans (hb8.mono hde.size)
        (try dsimp only)
        refine hK.out _ _ ⟨keep_cell hdu x1, keep_cell hdu zr⟩ (fun hHeld => ?_)
        clear hK K
        try simp only [List.getElem_toArray, List.getElem_cons_zero, List.getElem_cons_succ, Act.put, List.setIfInBounds_toArray, List.set_cons_zero, List.set_cons_succ]
        refine wpAnyH_ready (rs := [9]) (by kernel_rfl) (by simp) ?_
        refine AllReadyH.cons rfl (fun K hK => ?_) AllReadyH.nil
        go_simp
        have hdw := hdu.alloc hdu.size (.cells #[.slice ar m cr] 39)
        (try dsimp only)
        refine hK.out _ _ ⟨keep_cell hdw x1, keep_cell hdw zr⟩ (fun hHeld => ?_)
        clear hK K
        try simp only [List.getElem_toArray, List.getElem_cons_zero, List.getElem_cons_succ, Act.put, List.setIfInBounds_toArray, List.set_cons_zero, List.set_cons_succ]
        have hb2 := (Below.refl u1.heap.size u1).alloc (Nat.le_refl _) (.cells #[.slice ar m cr] 39)
        obtain ⟨rs, t1w, t2, t3w, t4⟩ := hT.out.rows
        have t1 := own_below t1w hdw
        have t3 := rows_below t3w hdw
        have t5 : ∀ q (_ : q < (V.take k).length) g, (rs.getD q (.slice none 0 0)).ownBlock = some g → (Value.slice ar m cr).ownBlock ≠ some g := fun q hq g h1 h2 => by
          have := rows_lt t3w hq h1
          have := (hor.lt g h2).1
          have := hdr.size
          omega
        rw [Htk.out] at t1 t2
        refine wpAnyH_ready (rs := [10]) (by kernel_rfl) (by simp) ?_
        refine AllReadyH.cons rfl (fun K hK => ?_) AllReadyH.nil
        rw [if_pos (by rfl)]
        refine wp_append_own _ _ _ _ (by rfl) W3.heap.size 39 i0 (.slice none 0 0) 1 24 Try.underlying55 hi0 hz0 hz1 hz2 rfl (by decide) _ k rs (by rfl) t1 ⟨u1.heap.size, 0, none⟩ 1 1 [.slice ar m cr] (by rfl) rfl (World.news_of_block (cs := #[.slice ar m cr]) (t := 39) (fr := (0, 0)) (heap_alloc_new u1 _)) (by simp [Value.oneCell']) (by unfold maxLen; omega) (by omega) (Nat.le_trans hsz hdw.size) ?_
        intro v1 z6 ho1 hg1 _
        obtain ⟨gv, c9, rfl, -, -, -, -⟩ := own_cells ho1 (by omega)
        have hT2 : OTabS z6 W3.heap.size (.slice (some ⟨gv, 0, none⟩) (k + 1) c9) (V.take k ++ [lk]) := otabS_push (r := .slice ar m cr) (rs := rs) (V := V.take k) (by rw [Htk.out]; exact t1) (by rw [Htk.out]; exact t2) t3 t4 t5 (by rw [Hm.out]) (by rw [← Hm.out]; exact hcr) (by rw [← Hm.out]; exact own_mono (own_below hor hb2) hsz) hg1 (by rw [Htk.out]; exact ho1)
        have hb6 : Below W3.heap.size wr z6 := (hdw.mono hsz).grown hg1 (Nat.le_trans hsz hdw.size) (fun q hq => (t1.lt q hq).1)
        have r3z := (hb6.block G3 hG3).trans r3
        obtain ⟨⟨c0, c1⟩, g0, g1⟩ := row_fr r3z
        have r3n := snd_cell r3z (.slice (some ⟨gv, 0, none⟩) (k + 1) c9)
        have hTn := hT2.set (o := 1) (u := .slice (some ⟨gv, 0, none⟩) (k + 1) c9) hG3
        have hBz := below_setCell (g := G3) (o := 1) (hb.trans (hb6.mono hW13)) (by omega) (.slice (some ⟨gv, 0, none⟩) (k + 1) c9)
        have x6 := (hb6.cell (p := ⟨G, 1, none⟩) (show G < W3.heap.size by omega)).trans x1
        have z6r := (hb6.cell (p := ⟨bV, oV + k, none⟩) (show bV < W3.heap.size by omega)).trans zr
        (try dsimp only)
        refine hK.out _ _ ⟨x6, z6r⟩ (fun hHeld => ?_)
        clear hK K
        try simp only [List.getElem_toArray, List.getElem_cons_zero, List.getElem_cons_succ, Act.put, List.setIfInBounds_toArray, List.set_cons_zero, List.set_cons_succ]
        have HZ6 := Lib.hid hb6.size
        refine wpAnyH_take (i := 11) (v := .pointer (some ⟨G3, 1, none⟩)) rfl (by kernel_rfl) (by kernel_rfl) (by kernel_rfl) (fun _ _ _ h => h) (Or.inl ⟨by rfl, fun w hSw => ?_⟩) (by assumption) ?_
        · obtain ⟨s0, s1⟩ := hSw
          (go_simp <;> omega)
        try simp only [List.getElem_toArray, List.getElem_cons_zero, List.getElem_cons_succ, Act.put, List.setIfInBounds_toArray, List.set_cons_zero, List.set_cons_succ]
        refine wpAnyH_ready (rs := [12]) (by kernel_rfl) (by simp) ?_
        refine AllReadyH.cons rfl (fun K hK => ?_) AllReadyH.nil
        go_simp
        (try dsimp only)
        refine hK.out _ _ ⟨cell_one_at _ (show G ≠ G3 by omega) x6, cell_one_at _ (show bV ≠ G3 by omega) z6r⟩ (fun hHeld => ?_)
        clear hK K
        try simp only [List.getElem_toArray, List.getElem_cons_zero, List.getElem_cons_succ, Act.put, List.setIfInBounds_toArray, List.set_cons_zero, List.set_cons_succ]
        refine wpAnyH_done (by kernel_rfl) ?_ _
        go_wp2_with fail
        go_roundw
        case rel => exact ⟨k + 1, some ⟨gv, 0, none⟩, c9, by omega, by go_num, r3n, Lib.hid (by rw [Hts.out]; exact hTn), by have := HZ6.out; simp [World.setCell]; omega, hBz⟩
        case measure => simp [intOf]; omega
      · go_simp
        have hde := hdr.alloc hdr.size (.cells #[] 3)
        (try dsimp only)
        refine hK.out _ _ ⟨keep_cell hde x1, keep_cell hde zr⟩ (fun hHeld => ?_)
        clear hK K
        try simp only [List.getElem_toArray, List.getElem_cons_zero, List.getElem_cons_succ, Act.put, List.setIfInBounds_toArray, List.set_cons_zero, List.set_cons_succ]
        refine wpAnyH_ready (rs := [1, 8]) (by kernel_rfl) (by simp) ?_
        refine AllReadyH.cons rfl (fun K hK => ?_) (AllReadyH.cons rfl (fun K hK => ?_) AllReadyH.nil)
        · have y1d := keep_cell ((Below.refl wr.heap.size wr).alloc (Nat.le_refl _) (.cells #[] 3)) y1
          go_simp
          (try dsimp only)
          refine hK.out _ _ ⟨keep_cell hde x1, keep_cell hde zr⟩ (fun hHeld => ?_)
          clear hK K
          try simp only [List.getElem_toArray, List.getElem_cons_zero, List.getElem_cons_succ, Act.put, List.setIfInBounds_toArray, List.set_cons_zero, List.set_cons_succ]
          refine wpAnyH_ready (rs := [8]) (by kernel_rfl) (by simp) ?_
          refine AllReadyH.cons rfl (fun K hK => ?_) AllReadyH.nil
          rw [if_pos (by rfl)]
          refine wp_copy _ _ 39 3 (by rfl) i9 (.int .i64 0) 1 8 Try.underlying39 hi9 hy0 hy1 hy2 rfl (by decide) wr.heap.size wr.heap.size (by rfl) (heap_alloc_new wr.drew _) (Nat.le_refl _) hde.size aoi m ci (lk.map (Value.int .i64)) (by rfl) (by rw [List.length_map, Hm.out]; omega) (fun e => by rw [Hm.out]; exact ints_null hIk e) (fun ad e => ints_flat (by rw [← e]; exact hIk.below hde)) (by unfold maxLen; omega) (by omega) ?_
          intro v8 u1 hor hb8
          obtain ⟨ar, cr, rfl, hcr, -⟩ := own_ints hor Hm.out
          have hdu := hde.trans (hb8.mono hde.size)
          (try dsimp only)
          refine hK.out _ _ ⟨keep_cell hdu x1, keep_cell hdu zr⟩ (fun hHeld => ?_)
          clear hK K
          try simp only [List.getElem_toArray, List.getElem_cons_zero, List.getElem_cons_succ, Act.put, List.setIfInBounds_toArray, List.set_cons_zero, List.set_cons_succ]
          refine wpAnyH_ready (rs := [9]) (by kernel_rfl) (by simp) ?_
          refine AllReadyH.cons rfl (fun K hK => ?_) AllReadyH.nil
          go_simp
          have hdw := hdu.alloc hdu.size (.cells #[.slice ar m cr] 39)
          (try dsimp only)
          refine hK.out _ _ ⟨keep_cell hdw x1, keep_cell hdw zr⟩ (fun hHeld => ?_)
          clear hK K
          try simp only [List.getElem_toArray, List.getElem_cons_zero, List.getElem_cons_succ, Act.put, List.setIfInBounds_toArray, List.set_cons_zero, List.set_cons_succ]
          have hb2 := (Below.refl u1.heap.size u1).alloc (Nat.le_refl _) (.cells #[.slice ar m cr] 39)
          obtain ⟨rs, t1w, t2, t3w, t4⟩ := hT.out.rows
          have t1 := own_below t1w hdw
          have t3 := rows_below t3w hdw
          have t5 : ∀ q (_ : q < (V.take k).length) g, (rs.getD q (.slice none 0 0)).ownBlock = some g → (Value.slice ar m cr).ownBlock ≠ some g := fun q hq g h1 h2 => by
            have := rows_lt t3w hq h1
            have := (hor.lt g h2).1
            have := hdr.size
            omega
          rw [Htk.out] at t1 t2
          refine wpAnyH_ready (rs := [10]) (by kernel_rfl) (by simp) ?_
          refine AllReadyH.cons rfl (fun K hK => ?_) AllReadyH.nil
          rw [if_pos (by rfl)]
          refine wp_append_own _ _ _ _ (by rfl) W3.heap.size 39 i0 (.slice none 0 0) 1 24 Try.underlying55 hi0 hz0 hz1 hz2 rfl (by decide) _ k rs (by rfl) t1 ⟨u1.heap.size, 0, none⟩ 1 1 [.slice ar m cr] (by rfl) rfl (World.news_of_block (cs := #[.slice ar m cr]) (t := 39) (fr := (0, 0)) (heap_alloc_new u1 _)) (by simp [Value.oneCell']) (by unfold maxLen; omega) (by omega) (Nat.le_trans hsz hdw.size) ?_
          intro v1 z6 ho1 hg1 _
          obtain ⟨gv, c9, rfl, -, -, -, -⟩ := own_cells ho1 (by omega)
          have hT2 : OTabS z6 W3.heap.size (.slice (some ⟨gv, 0, none⟩) (k + 1) c9) (V.take k ++ [lk]) := otabS_push (r := .slice ar m cr) (rs := rs) (V := V.take k) (by rw [Htk.out]; exact t1) (by rw [Htk.out]; exact t2) t3 t4 t5 (by rw [Hm.out]) (by rw [← Hm.out]; exact hcr) (by rw [← Hm.out]; exact own_mono (own_below hor hb2) hsz) hg1 (by rw [Htk.out]; exact ho1)
          have hb6 : Below W3.heap.size wr z6 := (hdw.mono hsz).grown hg1 (Nat.le_trans hsz hdw.size) (fun q hq => (t1.lt q hq).1)
          have r3z := (hb6.block G3 hG3).trans r3
          obtain ⟨⟨c0, c1⟩, g0, g1⟩ := row_fr r3z
          have r3n := snd_cell r3z (.slice (some ⟨gv, 0, none⟩) (k + 1) c9)
          have hTn := hT2.set (o := 1) (u := .slice (some ⟨gv, 0, none⟩) (k + 1) c9) hG3
          have hBz := below_setCell (g := G3) (o := 1) (hb.trans (hb6.mono hW13)) (by omega) (.slice (some ⟨gv, 0, none⟩) (k + 1) c9)
          have x6 := (hb6.cell (p := ⟨G, 1, none⟩) (show G < W3.heap.size by omega)).trans x1
          have z6r := (hb6.cell (p := ⟨bV, oV + k, none⟩) (show bV < W3.heap.size by omega)).trans zr
          (try dsimp only)
          refine hK.out _ _ ⟨x6, z6r⟩ (fun hHeld => ?_)
          clear hK K
          try simp only [List.getElem_toArray, List.getElem_cons_zero, List.getElem_cons_succ, Act.put, List.setIfInBounds_toArray, List.set_cons_zero, List.set_cons_succ]
          have HZ6 := Lib.hid hb6.size
          refine wpAnyH_take (i := 11) (v := .pointer (some ⟨G3, 1, none⟩)) rfl (by kernel_rfl) (by kernel_rfl) (by kernel_rfl) (fun _ _ _ h => h) (Or.inl ⟨by rfl, fun w hSw => ?_⟩) (by assumption) ?_
          · obtain ⟨s0, s1⟩ := hSw
            (go_simp <;> omega)
          try simp only [List.getElem_toArray, List.getElem_cons_zero, List.getElem_cons_succ, Act.put, List.setIfInBounds_toArray, List.set_cons_zero, List.set_cons_succ]
          refine wpAnyH_ready (rs := [12]) (by kernel_rfl) (by simp) ?_
          refine AllReadyH.cons rfl (fun K hK => ?_) AllReadyH.nil
          go_simp
          (try dsimp only)
          refine hK.out _ _ ⟨cell_one_at _ (show G ≠ G3 by omega) x6, cell_one_at _ (show bV ≠ G3 by omega) z6r⟩ (fun hHeld => ?_)
          clear hK K
          try simp only [List.getElem_toArray, List.getElem_cons_zero, List.getElem_cons_succ, Act.put, List.setIfInBounds_toArray, List.set_cons_zero, List.set_cons_succ]
          refine wpAnyH_done (by kernel_rfl) ?_ _
          go_wp2_with fail
          go_roundw
          case rel => exact ⟨k + 1, some ⟨gv, 0, none⟩, c9, by omega, by go_num, r3n, Lib.hid (by rw [Hts.out]; exact hTn), by have := HZ6.out; simp [World.setCell]; omega, hBz⟩
          case measure => simp [intOf]; omega
        · rw [if_pos (by rfl)]
          refine wp_copy _ _ 39 3 (by rfl) i9 (.int .i64 0) 1 8 Try.underlying39 hi9 hy0 hy1 hy2 rfl (by decide) wr.heap.size wr.heap.size (by rfl) (heap_alloc_new wr.drew _) (Nat.le_refl _) hde.size aoi m ci (lk.map (Value.int .i64)) (by rfl) (by rw [List.length_map, Hm.out]; omega) (fun e => by rw [Hm.out]; exact ints_null hIk e) (fun ad e => ints_flat (by rw [← e]; exact hIk.below hde)) (by unfold maxLen; omega) (by omega) ?_
          intro v8 u1 hor hb8
          obtain ⟨ar, cr, rfl, hcr, -⟩ := own_ints hor Hm.out
          have hdu := hde.trans (hb8.mono hde.size)
          (try dsimp only)
          refine hK.out _ _ ⟨keep_cell hdu x1, keep_cell hdu zr⟩ (fun hHeld => ?_)
          clear hK K
          try simp only [List.getElem_toArray, List.getElem_cons_zero, List.getElem_cons_succ, Act.put, List.setIfInBounds_toArray, List.set_cons_zero, List.set_cons_succ]
          refine wpAnyH_ready (rs := [1, 9]) (by kernel_rfl) (by simp) ?_
          refine AllReadyH.cons rfl (fun K hK => ?_) (AllReadyH.cons rfl (fun K hK => ?_) AllReadyH.nil)
          · have y1d := keep_cell hdu y1
            go_simp
            (try dsimp only)
            refine hK.out _ _ ⟨keep_cell hdu x1, keep_cell hdu zr⟩ (fun hHeld => ?_)
            clear hK K
            try simp only [List.getElem_toArray, List.getElem_cons_zero, List.getElem_cons_succ, Act.put, List.setIfInBounds_toArray, List.set_cons_zero, List.set_cons_succ]
            refine wpAnyH_ready (rs := [9]) (by kernel_rfl) (by simp) ?_
            refine AllReadyH.cons rfl (fun K hK => ?_) AllReadyH.nil
            go_simp
            have hdw := hdu.alloc hdu.size (.cells #[.slice ar m cr] 39)
            (try dsimp only)
            refine hK.out _ _ ⟨keep_cell hdw x1, keep_cell hdw zr⟩ (fun hHeld => ?_)
            clear hK K
            try simp only [List.getElem_toArray, List.getElem_cons_zero, List.getElem_cons_succ, Act.put, List.setIfInBounds_toArray, List.set_cons_zero, List.set_cons_succ]
            have hb2 := (Below.refl u1.heap.size u1).alloc (Nat.le_refl _) (.cells #[.slice ar m cr] 39)
            obtain ⟨rs, t1w, t2, t3w, t4⟩ := hT.out.rows
            have t1 := own_below t1w hdw
            have t3 := rows_below t3w hdw
            have t5 : ∀ q (_ : q < (V.take k).length) g, (rs.getD q (.slice none 0 0)).ownBlock = some g → (Value.slice ar m cr).ownBlock ≠ some g := fun q hq g h1 h2 => by
              have := rows_lt t3w hq h1
              have := (hor.lt g h2).1
              have := hdr.size
              omega
            rw [Htk.out] at t1 t2
            refine wpAnyH_ready (rs := [10]) (by kernel_rfl) (by simp) ?_
            refine AllReadyH.cons rfl (fun K hK => ?_) AllReadyH.nil
            rw [if_pos (by rfl)]
            refine wp_append_own _ _ _ _ (by rfl) W3.heap.size 39 i0 (.slice none 0 0) 1 24 Try.underlying55 hi0 hz0 hz1 hz2 rfl (by decide) _ k rs (by rfl) t1 ⟨u1.heap.size, 0, none⟩ 1 1 [.slice ar m cr] (by rfl) rfl (World.news_of_block (cs := #[.slice ar m cr]) (t := 39) (fr := (0, 0)) (heap_alloc_new u1 _)) (by simp [Value.oneCell']) (by unfold maxLen; omega) (by omega) (Nat.le_trans hsz hdw.size) ?_
            intro v1 z6 ho1 hg1 _
            obtain ⟨gv, c9, rfl, -, -, -, -⟩ := own_cells ho1 (by omega)
            have hT2 : OTabS z6 W3.heap.size (.slice (some ⟨gv, 0, none⟩) (k + 1) c9) (V.take k ++ [lk]) := otabS_push (r := .slice ar m cr) (rs := rs) (V := V.take k) (by rw [Htk.out]; exact t1) (by rw [Htk.out]; exact t2) t3 t4 t5 (by rw [Hm.out]) (by rw [← Hm.out]; exact hcr) (by rw [← Hm.out]; exact own_mono (own_below hor hb2) hsz) hg1 (by rw [Htk.out]; exact ho1)
            have hb6 : Below W3.heap.size wr z6 := (hdw.mono hsz).grown hg1 (Nat.le_trans hsz hdw.size) (fun q hq => (t1.lt q hq).1)
            have r3z := (hb6.block G3 hG3).trans r3
            obtain ⟨⟨c0, c1⟩, g0, g1⟩ := row_fr r3z
            have r3n := snd_cell r3z (.slice (some ⟨gv, 0, none⟩) (k + 1) c9)
            have hTn := hT2.set (o := 1) (u := .slice (some ⟨gv, 0, none⟩) (k + 1) c9) hG3
            have hBz := below_setCell (g := G3) (o := 1) (hb.trans (hb6.mono hW13)) (by omega) (.slice (some ⟨gv, 0, none⟩) (k + 1) c9)
            have x6 := (hb6.cell (p := ⟨G, 1, none⟩) (show G < W3.heap.size by omega)).trans x1
            have z6r := (hb6.cell (p := ⟨bV, oV + k, none⟩) (show bV < W3.heap.size by omega)).trans zr
            (try dsimp only)
            refine hK.out _ _ ⟨x6, z6r⟩ (fun hHeld => ?_)
            clear hK K
            try simp only [List.getElem_toArray, List.getElem_cons_zero, List.getElem_cons_succ, Act.put, List.setIfInBounds_toArray, List.set_cons_zero, List.set_cons_succ]
            have HZ6 := Lib.hid hb6.size
            refine wpAnyH_take (i := 11) (v := .pointer (some ⟨G3, 1, none⟩)) rfl (by kernel_rfl) (by kernel_rfl) (by kernel_rfl) (fun _ _ _ h => h) (Or.inl ⟨by rfl, fun w hSw => ?_⟩) (by assumption) ?_
            · obtain ⟨s0, s1⟩ := hSw
              (go_simp <;> omega)
            try simp only [List.getElem_toArray, List.getElem_cons_zero, List.getElem_cons_succ, Act.put, List.setIfInBounds_toArray, List.set_cons_zero, List.set_cons_succ]
            refine wpAnyH_ready (rs := [12]) (by kernel_rfl) (by simp) ?_
            refine AllReadyH.cons rfl (fun K hK => ?_) AllReadyH.nil
            go_simp
            (try dsimp only)
            refine hK.out _ _ ⟨cell_one_at _ (show G ≠ G3 by omega) x6, cell_one_at _ (show bV ≠ G3 by omega) z6r⟩ (fun hHeld => ?_)
            clear hK K
            try simp only [List.getElem_toArray, List.getElem_cons_zero, List.getElem_cons_succ, Act.put, List.setIfInBounds_toArray, List.set_cons_zero, List.set_cons_succ]
            refine wpAnyH_done (by kernel_rfl) ?_ _
            go_wp2_with fail
            go_roundw
            case rel => exact ⟨k + 1, some ⟨gv, 0, none⟩, c9, by omega, by go_num, r3n, Lib.hid (by rw [Hts.out]; exact hTn), by have := HZ6.out; simp [World.setCell]; omega, hBz⟩
            case measure => simp [intOf]; omega
          · go_simp
            have hdw := hdu.alloc hdu.size (.cells #[.slice ar m cr] 39)
            (try dsimp only)
            refine hK.out _ _ ⟨keep_cell hdw x1, keep_cell hdw zr⟩ (fun hHeld => ?_)
            clear hK K
            try simp only [List.getElem_toArray, List.getElem_cons_zero, List.getElem_cons_succ, Act.put, List.setIfInBounds_toArray, List.set_cons_zero, List.set_cons_succ]
            have y1d := keep_cell hdw y1
            refine wpAnyH_ready (rs := [1]) (by kernel_rfl) (by simp) ?_
            refine AllReadyH.cons rfl (fun K hK => ?_) AllReadyH.nil
            go_simp
            (try dsimp only)
            refine hK.out _ _ ⟨keep_cell hdw x1, keep_cell hdw zr⟩ (fun hHeld => ?_)
            clear hK K
            try simp only [List.getElem_toArray, List.getElem_cons_zero, List.getElem_cons_succ, Act.put, List.setIfInBounds_toArray, List.set_cons_zero, List.set_cons_succ]
            have hb2 := (Below.refl u1.heap.size u1).alloc (Nat.le_refl _) (.cells #[.slice ar m cr] 39)
            obtain ⟨rs, t1w, t2, t3w, t4⟩ := hT.out.rows
            have t1 := own_below t1w hdw
            have t3 := rows_below t3w hdw
            have t5 : ∀ q (_ : q < (V.take k).length) g, (rs.getD q (.slice none 0 0)).ownBlock = some g → (Value.slice ar m cr).ownBlock ≠ some g := fun q hq g h1 h2 => by
              have := rows_lt t3w hq h1
              have := (hor.lt g h2).1
              have := hdr.size
              omega
            rw [Htk.out] at t1 t2
            refine wpAnyH_ready (rs := [10]) (by kernel_rfl) (by simp) ?_
            refine AllReadyH.cons rfl (fun K hK => ?_) AllReadyH.nil
            rw [if_pos (by rfl)]
            refine wp_append_own _ _ _ _ (by rfl) W3.heap.size 39 i0 (.slice none 0 0) 1 24 Try.underlying55 hi0 hz0 hz1 hz2 rfl (by decide) _ k rs (by rfl) t1 ⟨u1.heap.size, 0, none⟩ 1 1 [.slice ar m cr] (by rfl) rfl (World.news_of_block (cs := #[.slice ar m cr]) (t := 39) (fr := (0, 0)) (heap_alloc_new u1 _)) (by simp [Value.oneCell']) (by unfold maxLen; omega) (by omega) (Nat.le_trans hsz hdw.size) ?_
            intro v1 z6 ho1 hg1 _
            obtain ⟨gv, c9, rfl, -, -, -, -⟩ := own_cells ho1 (by omega)
            have hT2 : OTabS z6 W3.heap.size (.slice (some ⟨gv, 0, none⟩) (k + 1) c9) (V.take k ++ [lk]) := otabS_push (r := .slice ar m cr) (rs := rs) (V := V.take k) (by rw [Htk.out]; exact t1) (by rw [Htk.out]; exact t2) t3 t4 t5 (by rw [Hm.out]) (by rw [← Hm.out]; exact hcr) (by rw [← Hm.out]; exact own_mono (own_below hor hb2) hsz) hg1 (by rw [Htk.out]; exact ho1)
            have hb6 : Below W3.heap.size wr z6 := (hdw.mono hsz).grown hg1 (Nat.le_trans hsz hdw.size) (fun q hq => (t1.lt q hq).1)
            have r3z := (hb6.block G3 hG3).trans r3
            obtain ⟨⟨c0, c1⟩, g0, g1⟩ := row_fr r3z
            have r3n := snd_cell r3z (.slice (some ⟨gv, 0, none⟩) (k + 1) c9)
            have hTn := hT2.set (o := 1) (u := .slice (some ⟨gv, 0, none⟩) (k + 1) c9) hG3
            have hBz := below_setCell (g := G3) (o := 1) (hb.trans (hb6.mono hW13)) (by omega) (.slice (some ⟨gv, 0, none⟩) (k + 1) c9)
            have x6 := (hb6.cell (p := ⟨G, 1, none⟩) (show G < W3.heap.size by omega)).trans x1
            have z6r := (hb6.cell (p := ⟨bV, oV + k, none⟩) (show bV < W3.heap.size by omega)).trans zr
            (try dsimp only)
            refine hK.out _ _ ⟨x6, z6r⟩ (fun hHeld => ?_)
            clear hK K
            try simp only [List.getElem_toArray, List.getElem_cons_zero, List.getElem_cons_succ, Act.put, List.setIfInBounds_toArray, List.set_cons_zero, List.set_cons_succ]
            have HZ6 := Lib.hid hb6.size
            refine wpAnyH_take (i := 11) (v := .pointer (some ⟨G3, 1, none⟩)) rfl (by kernel_rfl) (by kernel_rfl) (by kernel_rfl) (fun _ _ _ h => h) (Or.inl ⟨by rfl, fun w hSw => ?_⟩) (by assumption) ?_
            · obtain ⟨s0, s1⟩ := hSw
              (go_simp <;> omega)
            try simp only [List.getElem_toArray, List.getElem_cons_zero, List.getElem_cons_succ, Act.put, List.setIfInBounds_toArray, List.set_cons_zero, List.set_cons_succ]
            refine wpAnyH_ready (rs := [12]) (by kernel_rfl) (by simp) ?_
            refine AllReadyH.cons rfl (fun K hK => ?_) AllReadyH.nil
            go_simp
            (try dsimp only)
            refine hK.out _ _ ⟨cell_one_at _ (show G ≠ G3 by omega) x6, cell_one_at _ (show bV ≠ G3 by omega) z6r⟩ (fun hHeld => ?_)
            clear hK K
            try simp only [List.getElem_toArray, List.getElem_cons_zero, List.getElem_cons_succ, Act.put, List.setIfInBounds_toArray, List.set_cons_zero, List.set_cons_succ]
            refine wpAnyH_done (by kernel_rfl) ?_ _
            go_wp2_with fail
            go_roundw
            case rel => exact ⟨k + 1, some ⟨gv, 0, none⟩, c9, by omega, by go_num, r3n, Lib.hid (by rw [Hts.out]; exact hTn), by have := HZ6.out; simp [World.setCell]; omega, hBz⟩
            case measure => simp [intOf]; omega
    · have hk2 : k = nV := by omega
      have hTF := hT.out
      rw [show V.take k = V by rw [hk2, HnV.out, List.take_length]] at hTF
      have Hk := Lib.hid hk2
      have hAr := hA.trans (hb.mono hA.size)
      have rrr := heap_keep hb rr
      have hoLr := own_below hoL hb
      clear hk2 hT
      obtain ⟨⟨y0, y1⟩, -, -⟩ := row_fr r3
      obtain ⟨⟨r0, r1⟩, s0, s1⟩ := row_fr rrr
      go_wp2_with fail
      have hGw := HG.out
      refine bodyPost_ret (results_cell_row rfl _ _ _ _ _ _ _ rfl (two_cells rrr (.slice aL nL cL2) (.slice av k cv)) Try.underlying57 rfl kinfoFd2) rfl ⟨⟨_, _, rfl, ?_, ?_⟩, below_setCell (below_setCell hAr (by omega) _) (by omega) _⟩
      · exact own_same (own_mono hoLr hsL) (fun q hq => heap_two_eq0 (.slice aL nL cL2) (.slice av k cv) (show q ≠ G + 1 by have := (hoLr.lt q hq).1; omega))
      · exact ⟨W3.heap.size, by omega, fun g hg => by have := (hoL.lt g hg).2; omega, (hTF.set (g := G + 1) (by omega)).set (g := G + 1) (by omega)⟩
end Go.Proofs.Ytemlfklipkpacaa
