import Derived.Test.YtemlfklipkpacaaNc
import Derived.Test.YtemlfklipkpacaaKy
import Derived.Lib.OwnBridge
import Derived.Lib.SliceRun
/- Fields that a call makes; slices.Clone of numbers; copied of package knife. -/
namespace Go.Proofs.Ytemlfklipkpacaa
open Go.RowKit

theorem own_row1 {w : World} {base n size : Nat} {e : TypeId} {v : Value} {xs : List Value} (h : w.ownsRow base e size v n xs) (k : Nat) (hk : v.ownBlock = some k) : ∃ cs, w.heap[k]? = some (.cells cs e (0, 0)) := by
  rcases h.2 with ⟨rfl, -⟩ | ⟨g, cap, cur, rfl, h3, h4, rest⟩
  · cases hk
  · cases hk
    exact ⟨cur, h4⟩
/-- A table of numbers of the call's own: the rows, and the row of rows. -/
structure OTab (w : World) (base : Nat) (v : Value) (V : List (List Int)) : Prop where
  rows : ∃ rs : List Value, w.ownsRow base 39 1 v V.length rs ∧ rs.length = V.length ∧ ∀ k (_ : k < V.length), ∃ ao cap, rs[k]? = some (.slice ao (V.getD k []).length cap) ∧ (V.getD k []).length ≤ cap ∧ w.ownsRow base 3 1 (.slice ao (V.getD k []).length cap) (V.getD k []).length ((V.getD k []).map (Value.int .i64))
theorem OTab.below {w w' : World} {base : Nat} {v : Value} {V : List (List Int)} (h : OTab w base v V) (hb : Below w.heap.size w w') : OTab w' base v V := by
  obtain ⟨rs, h1, h2, h3⟩ := h.rows
  refine ⟨rs, own_below h1 hb, h2, fun k hk => ?_⟩
  obtain ⟨ao, cap, a1, a2, a3⟩ := h3 k hk
  exact ⟨ao, cap, a1, a2, own_below a3 hb⟩
theorem OTab.mono {w : World} {base base' : Nat} {v : Value} {V : List (List Int)} (h : OTab w base v V) (hb : base' ≤ base) : OTab w base' v V := by
  obtain ⟨rs, h1, h2, h3⟩ := h.rows
  refine ⟨rs, own_mono h1 hb, h2, fun k hk => ?_⟩
  obtain ⟨ao, cap, a1, a2, a3⟩ := h3 k hk
  exact ⟨ao, cap, a1, a2, own_mono a3 hb⟩
/-- Stores into a block that lies below the table. -/
theorem OTab.set {w : World} {base g o : Nat} {v u : Value} {V : List (List Int)} (h : OTab w base v V) (hg : g < base) : OTab (w.setCell ⟨g, o, none⟩ u) base v V := by
  obtain ⟨rs, h1, h2, h3⟩ := h.rows
  refine ⟨rs, own_same h1 (fun k hk => heap_setCell_other w ⟨g, o, none⟩ k u (by show k ≠ g; have := (h1.lt k hk).1; omega)), h2, fun k hk => ?_⟩
  obtain ⟨ao, cap, a1, a2, a3⟩ := h3 k hk
  exact ⟨ao, cap, a1, a2, own_same a3 (fun j hj => heap_setCell_other w ⟨g, o, none⟩ j u (by show j ≠ g; have := (a3.lt j hj).1; omega))⟩
theorem otab_none {w : World} {base : Nat} : OTab w base (.slice none 0 0) [] := ⟨[], ⟨rfl, .inl ⟨rfl, rfl⟩⟩, rfl, fun k hk => absurd hk (by simp)⟩
/-- A row more: what the append of a row to the row of rows gives. -/
theorem otab_push {w w' : World} {base : Nat} {v v' r : Value} {V : List (List Int)} {l : List Int} {rs : List Value} {ao : Option Addr} {cap : Nat} (h1 : w.ownsRow base 39 1 v V.length rs) (h2 : rs.length = V.length)
    (h3 : ∀ k (_ : k < V.length), ∃ ao cap, rs[k]? = some (.slice ao (V.getD k []).length cap) ∧ (V.getD k []).length ≤ cap ∧ w.ownsRow base 3 1 (.slice ao (V.getD k []).length cap) (V.getD k []).length ((V.getD k []).map (Value.int .i64)))
    (hr : r = .slice ao l.length cap) (hc : l.length ≤ cap) (ho : w.ownsRow base 3 1 r l.length (l.map (Value.int .i64))) (hg : w.grownBy w' v.ownBlock) (h' : w'.ownsRow base 39 1 v' (V.length + 1) (rs ++ [r])) : OTab w' base v' (V ++ [l]) := by
  have keep : ∀ {u : Value} {n : Nat} {xs : List Value}, w.ownsRow base 3 1 u n xs → w'.ownsRow base 3 1 u n xs := fun {u n xs} hu => own_same hu (fun k hk => by
    refine hg.block k (hu.lt k hk).2 (fun e => ?_)
    obtain ⟨c1, e1⟩ := own_row1 hu k hk
    obtain ⟨c2, e2⟩ := own_row1 h1 k e.symm
    rw [e1] at e2
    simp at e2)
  refine ⟨rs ++ [r], by rw [List.length_append]; exact h', by simp [h2], fun k hk => ?_⟩
  rw [List.length_append, List.length_cons, List.length_nil] at hk
  by_cases hkl : k < V.length
  · have e : (V ++ [l]).getD k [] = V.getD k [] := by
      rw [List.getD_eq_getElem?_getD, List.getD_eq_getElem?_getD, List.getElem?_append_left hkl]
    obtain ⟨ao', cap', a1, a2, a3⟩ := h3 k hkl
    rw [e, List.getElem?_append_left (by omega)]
    exact ⟨ao', cap', a1, a2, keep a3⟩
  · have e0 : k = V.length := by omega
    subst e0
    have e : (V ++ [l]).getD V.length [] = l := by
      rw [List.getD_eq_getElem?_getD, List.getElem?_append_right (Nat.le_refl _)]; simp
    rw [e, List.getElem?_append_right (by omega), h2, Nat.sub_self]
    refine ⟨ao, cap, by rw [hr]; rfl, hc, ?_⟩
    rw [← hr]
    exact keep ho
theorem otab_tab {w : World} {base : Nat} {v : Value} {V : List (List Int)} (h : OTab w base v V) : ∃ ao cap, v = .slice ao V.length cap ∧ V.length ≤ cap ∧ Tab w ao V := by
  obtain ⟨rs, h1, h2, h3⟩ := h.rows
  by_cases h0 : 0 < V.length
  · obtain ⟨g, cap, rfl, hb, hlt, hnc, hc⟩ := own_cells h1 h0
    refine ⟨_, cap, rfl, hnc, ⟨fun _ => ⟨g, 0, rfl, hlt, fun i hi => ?_⟩⟩⟩
    obtain ⟨ao, c, a1, a2, a3⟩ := h3 i hi
    obtain ⟨ao', c', e', -, hI⟩ := own_ints a3 rfl
    cases e'
    refine ⟨ao, c, ?_, a2, hI⟩
    rw [Nat.zero_add]
    exact hc i _ a1
  · obtain ⟨-, h | h⟩ := h1
    · exact ⟨none, 0, by rw [h.1]; congr 1; omega, by omega, ⟨fun h1 => by omega⟩⟩
    · obtain ⟨g, cap, cur, rfl, -, -, hnc, -⟩ := h
      exact ⟨_, _, rfl, hnc, ⟨fun h1 => by omega⟩⟩

theorem snd_cell {w : World} {g : Nat} {a b : Value} {t : TypeId} (hh : w.heap[g]? = some (.cells #[a, b] t (0, 0))) (v : Value) : (w.setCell ⟨g, 1, none⟩ v).heap[g]? = some (.cells #[a, v] t (0, 0)) := by
  have := heap_setCell_same w g 1 _ t v hh
  simpa using this
theorem heap_two_eq0 {w : World} {g k o p : Nat} (u v : Value) (hne : k ≠ g) : ((w.setCell ⟨g, o, none⟩ u).setCell ⟨g, p, none⟩ v).heap[k]? = w.heap[k]? := by
  rw [heap_setCell_other _ _ _ _ (by show k ≠ g; exact hne), heap_setCell_other _ _ _ _ (by show k ≠ g; exact hne)]
theorem infoSlAll : (Try.prog.info? 39).map (fun i => (i.zero, i.size, i.bytes)) = some (some (.slice none 0 0), 1, 24) := by kernel_rfl
theorem info_sl : ∃ i, Try.prog.info? 39 = some i ∧ i.zero = some (.slice none 0 0) ∧ i.size = 1 ∧ i.bytes = 24 := by
  have h := infoSlAll
  cases hi : Try.prog.info? 39 with
  | none => rw [hi] at h; cases h
  | some i =>
    rw [hi] at h
    simp only [Option.map_some, Option.some.injEq, Prod.mk.injEq] at h
    exact ⟨i, rfl, h.1, h.2.1, h.2.2⟩
theorem own_new0 (w : World) (e : TypeId) : (w.alloc (.cells #[] e)).ownsRow w.heap.size e 1 (.slice (some ⟨w.heap.size, 0, none⟩) 0 0) 0 [] :=
  ⟨rfl, .inr ⟨w.heap.size, 0, #[], rfl, Nat.le_refl _, heap_alloc_new w _, Nat.le_refl _, Nat.zero_le _, rfl, rfl⟩⟩
theorem ints_ones (l : List Int) : ∀ v ∈ l.map (Value.int .i64), v.oneCell' = true := by
  intro v hv
  rw [List.mem_map] at hv
  obtain ⟨x, -, rfl⟩ := hv
  rfl
theorem ints_flat {w : World} {ad : Addr} {l : List Int} (h : Ints w (some ad) l) : ∀ j u, (l.map (Value.int .i64))[j]? = some u → w.cell? (ad.add j) = some u := by
  intro j u hu
  rw [List.getElem?_map] at hu
  have hj : j < l.length := by
    rcases Nat.lt_or_ge j l.length with h1 | h1
    · exact h1
    · rw [List.getElem?_eq_none h1] at hu; cases hu
  obtain ⟨b, off, e, hlt, hc⟩ := h.cells (by omega)
  cases e
  rw [List.getElem?_eq_getElem hj] at hu
  cases hu
  rw [add_none, hc j hj, List.getD_eq_getElem?_getD, List.getElem?_eq_getElem hj]
  rfl

set_option maxRecDepth 100000 in
set_option maxHeartbeats 4000000 in
theorem cloneInts_any (l : List Int) (ao : Option Addr) (n cap : Nat) (w : World) (hI : Ints w ao l) (hn : n = l.length) (hn9 : n ≤ 100000) :
    Calls Try.prog 152 #[.slice ao n cap] w fun e w' => (∃ v, e = .returned v ∧ w'.ownsRow w.heap.size 3 1 v n (l.map (Value.int .i64))) ∧ Below w.heap.size w w' := by
  have Hn := Lib.hid hn
  clear hn
  obtain ⟨i0, hi0, hz0, hz1, hz2⟩ := info_in
  have q := fun (w : World) (a : Option Addr) (n c n' c' : Nat) => Lib.run_eql_slice_nil (P := Try.prog) w 39 3 a n c n' c' Try.underlying39
  cases ao with
  | none =>
    have hl : Hid (l = []) := Lib.hid (by
      refine List.eq_nil_of_length_eq_zero (Nat.eq_zero_of_not_pos fun h => ?_)
      obtain ⟨b, off, e, -⟩ := hI.cells h
      cases e)
    have hn0 : n = 0 := by rw [Hn.out, hl.out]; rfl
    have hq : Hid (l.map (Value.int .i64) = []) := Lib.hid (by rw [hl.out]; rfl)
    subst hn0
    go_enter Try.func152, Try.ntmps152
    go_wp2_with fail
    go_ret
    exact ⟨⟨_, rfl, by rw [hq.out]; exact ⟨rfl, .inl ⟨rfl, rfl⟩⟩⟩, Below.refl _ _⟩
  | some ad =>
    have hal := (Below.refl w.heap.size w).alloc (Nat.le_refl _) (.cells #[] 3)
    have Hs := Lib.hid (ints_flat (hI.below hal))
    clear hal
    go_enter Try.func152, Try.ntmps152
    go_wp2_with (first | (at_builtin; refine wpList_append_own _ rfl _ _ 39 rfl w.heap.size 3 i0 (.int .i64 0) 1 8 Try.underlying39 hi0 hz0 hz1 hz2 rfl (by decide) _ 0 [] rfl (own_new0 w _) ad n cap (l.map (Value.int .i64)) rfl (by rw [List.length_map, Hn.out, Nat.mul_one]) Hs.out (ints_ones l) (by unfold maxLen; omega) (by omega) (by simp) ?_; intro v' w3 hown' hgrow3 hnil3; have hgb : Below w.heap.size w w3 := ((Below.refl _ w).alloc (Nat.le_refl _) _).grown hgrow3 (by simp) (fun x hx => by cases hx; exact Nat.le_refl _); have hown2 : w3.ownsRow w.heap.size 3 1 v' n (l.map (Value.int .i64)) := (by have h := hown'; rw [Nat.zero_add, List.nil_append] at h; exact h); clear hown' hgrow3 hnil3 Hs))
    go_ret
    exact ⟨⟨_, rfl, hown2⟩, hgb⟩

set_option maxRecDepth 100000 in
set_option maxHeartbeats 8000000 in
theorem kcopied_any (L : List Int) (V : List (List Int)) (aoL : Option Addr) (nL cL : Nat) (aoV : Option Addr) (nV cV : Nat) (w : World) (hf : Fld w aoL nL aoV nV L V) (hl : nL ≤ 100) (hv : nV ≤ 100) (hr : ∀ r ∈ V, r.length ≤ 100) :
    Calls Try.prog 114 #[.agg #[.slice aoL nL cL, .slice aoV nV cV]] w fun e w' => (∃ vL vV, e = .returned (.agg #[vL, vV]) ∧ w'.ownsRow w.heap.size 3 1 vL nL (L.map (Value.int .i64)) ∧ OTab w' w.heap.size vV V) ∧ Below w.heap.size w w' := by
  have HnL := Lib.hid hf.nl
  have HnV := Lib.hid hf.nv
  obtain ⟨i0, hi0, hz0, hz1, hz2⟩ := info_sl
  have hA := below_alloc2 w (.cells #[.slice aoL nL cL, .slice aoV nV cV] 57) (.cells #[.slice none 0 0, .slice none 0 0] 57)
  have rf := heap_alloc2_old w (.cells #[.slice aoL nL cL, .slice aoV nV cV] 57) (.cells #[.slice none 0 0, .slice none 0 0] 57)
  have rr := heap_alloc2_new w (.cells #[.slice aoL nL cL, .slice aoV nV cV] 57) (.cells #[.slice none 0 0, .slice none 0 0] 57)
  go_enter Try.func114, Try.ntmps114
  go_upto_region 1 with fail
  generalize (w.alloc (.cells #[.slice aoL nL cL, .slice aoV nV cV] 57)).alloc (.cells #[.slice none 0 0, .slice none 0 0] 57) = W0 at hA rf rr ⊢
  obtain ⟨G, hG⟩ : ∃ g, g = w.heap.size := ⟨_, rfl⟩
  rw [← hG] at rf rr ⊢
  have HG := Lib.hid hG
  clear hG
  replace hf := hf.below hA
  obtain ⟨⟨x0, x1⟩, -, -⟩ := row_fr rf
  go_wp2_with fail
  refine (cloneInts_any L aoL nL cL W0 hf.hL HnL.out (by omega)).mono ?_
  rintro e w1 ⟨⟨vL, rfl, hoL⟩, hbb⟩
  have hG1 : G + 1 < W0.heap.size := heap_lt rr
  replace hf := hf.below hbb
  replace rf := heap_keep hbb rf
  replace rr := heap_keep hbb rr
  have hsL := hA.size
  have hsW := hbb.size
  replace hA := hA.trans (hbb.mono hA.size)
  clear hbb x0 x1
  obtain ⟨aL, cL2, rfl, hcL, -⟩ := own_ints hoL HnL.out
  go_upto_region 2 with fail
  have r3 := heap_alloc_new w1 (.cells #[.slice aL nL cL2, .slice none 0 0] 57)
  have hal := (Below.refl w1.heap.size w1).alloc (Nat.le_refl _) (.cells #[.slice aL nL cL2, .slice none 0 0] 57)
  have hs3 : (w1.alloc (.cells #[.slice aL nL cL2, .slice none 0 0] 57)).heap.size = w1.heap.size + 1 := by simp
  generalize w1.alloc (.cells #[.slice aL nL cL2, .slice none 0 0] 57) = W3 at r3 hal hs3 ⊢
  obtain ⟨G3, hg3⟩ : ∃ g, g = w1.heap.size := ⟨_, rfl⟩
  rw [← hg3] at r3 hs3 ⊢
  have HG3 := Lib.hid hg3
  have hW13 : w1.heap.size ≤ W3.heap.size := hal.size
  have hG3w : w1.heap.size ≤ G3 := by omega
  clear hg3
  obtain ⟨⟨x0, x1⟩, -, -⟩ := row_fr (heap_keep hal rf)
  go_wp2_with fail
  clear x0 x1
  go_loopw [13] (fun i wr => ∃ (k : Nat) (av : Option Addr) (cv : Nat), k ≤ nV ∧ i = .int .i64 k ∧ wr.heap[G3]? = some (.cells #[.slice aL nL cL2, .slice av k cv] 57 (0, 0)) ∧ Hid (OTab wr W3.heap.size (.slice av k cv) (V.take k)) ∧ W3.heap.size ≤ wr.heap.size ∧ Below w1.heap.size w1 wr) (fun i _ => nV - (intOf i).toNat)
  case atStart => exact ⟨0, none, 0, Nat.zero_le _, rfl, r3, Lib.hid otab_none, Nat.le_refl _, hal⟩
  case round =>
    clear r3 hal
    obtain ⟨k, av, cv, hk, rfl, r3, hT, hsz, hb⟩ := hrel
    have hG3 : G3 < W3.heap.size := by omega
    by_cases hlt : k < nV
    · have hkV : k < V.length := by have := HnV.out; omega
      have i1 : (k : Int) < (nV : Int) := by omega
      obtain ⟨bV, oV, aoi, ci, rfl, zr, hci, hIk⟩ := (hf.below hb).hV.at hkV
      have hrk := hr (V.getD k []) (by rw [List.getD_eq_getElem?_getD, List.getElem?_eq_getElem hkV]; exact List.getElem_mem hkV)
      have Hts := Lib.hid (show V.take (k + 1) = V.take k ++ [V.getD k []] by rw [List.take_succ_eq_append_getElem hkV, List.getD_eq_getElem?_getD, List.getElem?_eq_getElem hkV]; rfl)
      have Htk := Lib.hid (show (V.take k).length = k by rw [List.length_take]; omega)
      obtain ⟨lk, hlk⟩ : ∃ l, l = V.getD k [] := ⟨_, rfl⟩
      rw [← hlk] at zr hci hIk hrk Hts
      clear hlk
      obtain ⟨m, hm⟩ : ∃ m, m = lk.length := ⟨_, rfl⟩
      have Hm := Lib.hid hm
      rw [← hm] at zr hci hrk
      clear hm
      obtain ⟨⟨y0, y1⟩, -, -⟩ := row_fr r3
      go_upto_region 5 with fail
      have hdr : Below wr.heap.size wr wr.drew := below_drewN (Below.refl wr.heap.size wr) 1
      refine wp_region_held_drew (S := fun _ => True) (by kernel_rfl) trivial (fun hHeld => ?_)
      refine wpAnyH_take (i := 0) (v := .pointer (some ⟨G3, 1, none⟩)) rfl (by kernel_rfl) (by kernel_rfl) (by kernel_rfl) (fun _ _ _ h => h) (Or.inl ⟨by rfl, fun w hSw => ?_⟩) (by assumption) ?_
      · obtain ⟨⟩ := hSw
        (go_simp <;> omega)
      try simp only [List.getElem_toArray, List.getElem_cons_zero, Act.put, List.setIfInBounds_toArray, List.set_cons_zero, List.set_cons_succ]
      refine wpAnyH_take (i := 2) (v := .slice aoi m ci) rfl (by kernel_rfl) (by kernel_rfl) (by kernel_rfl) (fun _ _ _ h => h) (Or.inl ⟨by rfl, fun w hSw => ?_⟩) (by assumption) ?_
      · obtain ⟨⟩ := hSw
        (go_simp <;> omega)
      try simp only [List.getElem_toArray, List.getElem_cons_zero, List.getElem_cons_succ, Act.put, List.setIfInBounds_toArray, List.set_cons_zero, List.set_cons_succ]
      refine wpAnyH_ready (rs := [1, 3]) (by kernel_rfl) (by simp) ?_
      refine AllReadyH.cons rfl (fun K hK => ?_) (AllReadyH.cons rfl (fun K hK => ?_) AllReadyH.nil)
      · have y1d := keep_cell hdr y1
        go_simp
        (try dsimp only)
        refine hK.out _ _ trivial (fun hHeld => ?_)
        clear hK K
        try simp only [List.getElem_toArray, List.getElem_cons_zero, List.getElem_cons_succ, Act.put, List.setIfInBounds_toArray, List.set_cons_zero, List.set_cons_succ]
        refine wpAnyH_ready (rs := [3]) (by kernel_rfl) (by simp) ?_
        refine AllReadyH.cons rfl (fun K hK => ?_) AllReadyH.nil
        go_simp
        go_at_call 152
        refine (cloneInts_any lk aoi m ci _ (hIk.below hdr) Hm.out (by omega)).mono ?_
        rintro e u1 ⟨⟨r, rfl, hor⟩, hb1⟩
        obtain ⟨ar, cr, rfl, hcr, -⟩ := own_ints hor Hm.out
        have hb1' := hdr.trans (hb1.mono hdr.size)
        (try dsimp only)
        refine hK.out _ _ trivial (fun hHeld => ?_)
        clear hK K
        try simp only [List.getElem_toArray, List.getElem_cons_zero, List.getElem_cons_succ, Act.put, List.setIfInBounds_toArray, List.set_cons_zero, List.set_cons_succ]
        refine wpAnyH_ready (rs := [4]) (by kernel_rfl) (by simp) ?_
        refine AllReadyH.cons rfl (fun K hK => ?_) AllReadyH.nil
        go_simp
        (try dsimp only)
        refine hK.out _ _ trivial (fun hHeld => ?_)
        clear hK K
        try simp only [List.getElem_toArray, List.getElem_cons_zero, List.getElem_cons_succ, Act.put, List.setIfInBounds_toArray, List.set_cons_zero, List.set_cons_succ]
        have hbx := hb1'.alloc hb1'.size (.cells #[.slice ar m cr] 39)
        have hb2 := (Below.refl u1.heap.size u1).alloc (Nat.le_refl _) (.cells #[.slice ar m cr] 39)
        obtain ⟨rs, t1, t2, t3⟩ := (hT.out.below hbx).rows
        rw [Htk.out] at t1 t2
        refine wpAnyH_ready (rs := [5]) (by kernel_rfl) (by simp) ?_
        refine AllReadyH.cons rfl (fun K hK => ?_) AllReadyH.nil
        rw [if_pos (by rfl)]
        refine wp_append_own _ _ _ _ (by rfl) W3.heap.size 39 i0 (.slice none 0 0) 1 24 Try.underlying55 hi0 hz0 hz1 hz2 rfl (by decide) _ k rs (by rfl) t1 ⟨u1.heap.size, 0, none⟩ 1 1 [.slice ar m cr] (by rfl) rfl (World.news_of_block (cs := #[.slice ar m cr]) (t := 39) (fr := (0, 0)) (heap_alloc_new u1 _)) (by simp [Value.oneCell']) (by unfold maxLen; omega) (by omega) (Nat.le_trans hsz hbx.size) ?_
        intro v1 z6 ho1 hg1 _
        obtain ⟨gv, c9, rfl, -, -, -, -⟩ := own_cells ho1 (by omega)
        have hT2 : OTab z6 W3.heap.size (.slice (some ⟨gv, 0, none⟩) (k + 1) c9) (V.take k ++ [lk]) := otab_push (r := .slice ar m cr) (rs := rs) (V := V.take k) (by rw [Htk.out]; exact t1) (by rw [Htk.out]; exact t2) t3 (by rw [Hm.out]) (by rw [← Hm.out]; exact hcr) (by rw [← Hm.out]; exact own_mono (own_below hor hb2) (Nat.le_trans hsz hdr.size)) hg1 (by rw [Htk.out]; exact ho1)
        have hb6 : Below W3.heap.size wr z6 := (hbx.mono hsz).grown hg1 (Nat.le_trans hsz hbx.size) (fun q hq => (t1.lt q hq).1)
        have r3z := (hb6.block G3 hG3).trans r3
        obtain ⟨⟨c0, c1⟩, g0, g1⟩ := row_fr r3z
        have r3n := snd_cell r3z (.slice (some ⟨gv, 0, none⟩) (k + 1) c9)
        have hTn := hT2.set (o := 1) (u := .slice (some ⟨gv, 0, none⟩) (k + 1) c9) hG3
        have hBz := below_setCell (g := G3) (o := 1) (hb.trans (hb6.mono hW13)) (by omega) (.slice (some ⟨gv, 0, none⟩) (k + 1) c9)
        (try dsimp only)
        refine hK.out _ _ trivial (fun hHeld => ?_)
        clear hK K
        try simp only [List.getElem_toArray, List.getElem_cons_zero, List.getElem_cons_succ, Act.put, List.setIfInBounds_toArray, List.set_cons_zero, List.set_cons_succ]
        have HZ6 := Lib.hid hb6.size
        refine wpAnyH_take (i := 6) (v := .pointer (some ⟨G3, 1, none⟩)) rfl (by kernel_rfl) (by kernel_rfl) (by kernel_rfl) (fun _ _ _ h => h) (Or.inl ⟨by rfl, fun w hSw => ?_⟩) (by assumption) ?_
        · obtain ⟨⟩ := hSw
          (go_simp <;> omega)
        try simp only [List.getElem_toArray, List.getElem_cons_zero, List.getElem_cons_succ, Act.put, List.setIfInBounds_toArray, List.set_cons_zero, List.set_cons_succ]
        refine wpAnyH_ready (rs := [7]) (by kernel_rfl) (by simp) ?_
        refine AllReadyH.cons rfl (fun K hK => ?_) AllReadyH.nil
        go_simp
        (try dsimp only)
        refine hK.out _ _ trivial (fun hHeld => ?_)
        clear hK K
        try simp only [List.getElem_toArray, List.getElem_cons_zero, List.getElem_cons_succ, Act.put, List.setIfInBounds_toArray, List.set_cons_zero, List.set_cons_succ]
        refine wpAnyH_done (by kernel_rfl) ?_ _
        go_wp2_with fail
        go_roundw
        case rel => exact ⟨k + 1, some ⟨gv, 0, none⟩, c9, by omega, by go_num, r3n, Lib.hid (by rw [Hts.out]; exact hTn), by have := HZ6.out; simp [World.setCell]; omega, hBz⟩
        case measure => simp [intOf]; omega
      · go_simp
        go_at_call 152
        refine (cloneInts_any lk aoi m ci _ (hIk.below hdr) Hm.out (by omega)).mono ?_
        rintro e u1 ⟨⟨r, rfl, hor⟩, hb1⟩
        obtain ⟨ar, cr, rfl, hcr, -⟩ := own_ints hor Hm.out
        have hb1' := hdr.trans (hb1.mono hdr.size)
        (try dsimp only)
        refine hK.out _ _ trivial (fun hHeld => ?_)
        clear hK K
        try simp only [List.getElem_toArray, List.getElem_cons_zero, List.getElem_cons_succ, Act.put, List.setIfInBounds_toArray, List.set_cons_zero, List.set_cons_succ]
        refine wpAnyH_ready (rs := [1, 4]) (by kernel_rfl) (by simp) ?_
        refine AllReadyH.cons rfl (fun K hK => ?_) (AllReadyH.cons rfl (fun K hK => ?_) AllReadyH.nil)
        · have y1d := keep_cell hb1' y1
          go_simp
          (try dsimp only)
          refine hK.out _ _ trivial (fun hHeld => ?_)
          clear hK K
          try simp only [List.getElem_toArray, List.getElem_cons_zero, List.getElem_cons_succ, Act.put, List.setIfInBounds_toArray, List.set_cons_zero, List.set_cons_succ]
          refine wpAnyH_ready (rs := [4]) (by kernel_rfl) (by simp) ?_
          refine AllReadyH.cons rfl (fun K hK => ?_) AllReadyH.nil
          go_simp
          (try dsimp only)
          refine hK.out _ _ trivial (fun hHeld => ?_)
          clear hK K
          try simp only [List.getElem_toArray, List.getElem_cons_zero, List.getElem_cons_succ, Act.put, List.setIfInBounds_toArray, List.set_cons_zero, List.set_cons_succ]
          have hbx := hb1'.alloc hb1'.size (.cells #[.slice ar m cr] 39)
          have hb2 := (Below.refl u1.heap.size u1).alloc (Nat.le_refl _) (.cells #[.slice ar m cr] 39)
          obtain ⟨rs, t1, t2, t3⟩ := (hT.out.below hbx).rows
          rw [Htk.out] at t1 t2
          refine wpAnyH_ready (rs := [5]) (by kernel_rfl) (by simp) ?_
          refine AllReadyH.cons rfl (fun K hK => ?_) AllReadyH.nil
          rw [if_pos (by rfl)]
          refine wp_append_own _ _ _ _ (by rfl) W3.heap.size 39 i0 (.slice none 0 0) 1 24 Try.underlying55 hi0 hz0 hz1 hz2 rfl (by decide) _ k rs (by rfl) t1 ⟨u1.heap.size, 0, none⟩ 1 1 [.slice ar m cr] (by rfl) rfl (World.news_of_block (cs := #[.slice ar m cr]) (t := 39) (fr := (0, 0)) (heap_alloc_new u1 _)) (by simp [Value.oneCell']) (by unfold maxLen; omega) (by omega) (Nat.le_trans hsz hbx.size) ?_
          intro v1 z6 ho1 hg1 _
          obtain ⟨gv, c9, rfl, -, -, -, -⟩ := own_cells ho1 (by omega)
          have hT2 : OTab z6 W3.heap.size (.slice (some ⟨gv, 0, none⟩) (k + 1) c9) (V.take k ++ [lk]) := otab_push (r := .slice ar m cr) (rs := rs) (V := V.take k) (by rw [Htk.out]; exact t1) (by rw [Htk.out]; exact t2) t3 (by rw [Hm.out]) (by rw [← Hm.out]; exact hcr) (by rw [← Hm.out]; exact own_mono (own_below hor hb2) (Nat.le_trans hsz hdr.size)) hg1 (by rw [Htk.out]; exact ho1)
          have hb6 : Below W3.heap.size wr z6 := (hbx.mono hsz).grown hg1 (Nat.le_trans hsz hbx.size) (fun q hq => (t1.lt q hq).1)
          have r3z := (hb6.block G3 hG3).trans r3
          obtain ⟨⟨c0, c1⟩, g0, g1⟩ := row_fr r3z
          have r3n := snd_cell r3z (.slice (some ⟨gv, 0, none⟩) (k + 1) c9)
          have hTn := hT2.set (o := 1) (u := .slice (some ⟨gv, 0, none⟩) (k + 1) c9) hG3
          have hBz := below_setCell (g := G3) (o := 1) (hb.trans (hb6.mono hW13)) (by omega) (.slice (some ⟨gv, 0, none⟩) (k + 1) c9)
          (try dsimp only)
          refine hK.out _ _ trivial (fun hHeld => ?_)
          clear hK K
          try simp only [List.getElem_toArray, List.getElem_cons_zero, List.getElem_cons_succ, Act.put, List.setIfInBounds_toArray, List.set_cons_zero, List.set_cons_succ]
          have HZ6 := Lib.hid hb6.size
          refine wpAnyH_take (i := 6) (v := .pointer (some ⟨G3, 1, none⟩)) rfl (by kernel_rfl) (by kernel_rfl) (by kernel_rfl) (fun _ _ _ h => h) (Or.inl ⟨by rfl, fun w hSw => ?_⟩) (by assumption) ?_
          · obtain ⟨⟩ := hSw
            (go_simp <;> omega)
          try simp only [List.getElem_toArray, List.getElem_cons_zero, List.getElem_cons_succ, Act.put, List.setIfInBounds_toArray, List.set_cons_zero, List.set_cons_succ]
          refine wpAnyH_ready (rs := [7]) (by kernel_rfl) (by simp) ?_
          refine AllReadyH.cons rfl (fun K hK => ?_) AllReadyH.nil
          go_simp
          (try dsimp only)
          refine hK.out _ _ trivial (fun hHeld => ?_)
          clear hK K
          try simp only [List.getElem_toArray, List.getElem_cons_zero, List.getElem_cons_succ, Act.put, List.setIfInBounds_toArray, List.set_cons_zero, List.set_cons_succ]
          refine wpAnyH_done (by kernel_rfl) ?_ _
          go_wp2_with fail
          go_roundw
          case rel => exact ⟨k + 1, some ⟨gv, 0, none⟩, c9, by omega, by go_num, r3n, Lib.hid (by rw [Hts.out]; exact hTn), by have := HZ6.out; simp [World.setCell]; omega, hBz⟩
          case measure => simp [intOf]; omega
        · go_simp
          (try dsimp only)
          refine hK.out _ _ trivial (fun hHeld => ?_)
          clear hK K
          try simp only [List.getElem_toArray, List.getElem_cons_zero, List.getElem_cons_succ, Act.put, List.setIfInBounds_toArray, List.set_cons_zero, List.set_cons_succ]
          have y1d := keep_cell (hb1'.alloc hb1'.size (.cells #[.slice ar m cr] 39)) y1
          refine wpAnyH_ready (rs := [1]) (by kernel_rfl) (by simp) ?_
          refine AllReadyH.cons rfl (fun K hK => ?_) AllReadyH.nil
          go_simp
          (try dsimp only)
          refine hK.out _ _ trivial (fun hHeld => ?_)
          clear hK K
          try simp only [List.getElem_toArray, List.getElem_cons_zero, List.getElem_cons_succ, Act.put, List.setIfInBounds_toArray, List.set_cons_zero, List.set_cons_succ]
          have hbx := hb1'.alloc hb1'.size (.cells #[.slice ar m cr] 39)
          have hb2 := (Below.refl u1.heap.size u1).alloc (Nat.le_refl _) (.cells #[.slice ar m cr] 39)
          obtain ⟨rs, t1, t2, t3⟩ := (hT.out.below hbx).rows
          rw [Htk.out] at t1 t2
          refine wpAnyH_ready (rs := [5]) (by kernel_rfl) (by simp) ?_
          refine AllReadyH.cons rfl (fun K hK => ?_) AllReadyH.nil
          rw [if_pos (by rfl)]
          refine wp_append_own _ _ _ _ (by rfl) W3.heap.size 39 i0 (.slice none 0 0) 1 24 Try.underlying55 hi0 hz0 hz1 hz2 rfl (by decide) _ k rs (by rfl) t1 ⟨u1.heap.size, 0, none⟩ 1 1 [.slice ar m cr] (by rfl) rfl (World.news_of_block (cs := #[.slice ar m cr]) (t := 39) (fr := (0, 0)) (heap_alloc_new u1 _)) (by simp [Value.oneCell']) (by unfold maxLen; omega) (by omega) (Nat.le_trans hsz hbx.size) ?_
          intro v1 z6 ho1 hg1 _
          obtain ⟨gv, c9, rfl, -, -, -, -⟩ := own_cells ho1 (by omega)
          have hT2 : OTab z6 W3.heap.size (.slice (some ⟨gv, 0, none⟩) (k + 1) c9) (V.take k ++ [lk]) := otab_push (r := .slice ar m cr) (rs := rs) (V := V.take k) (by rw [Htk.out]; exact t1) (by rw [Htk.out]; exact t2) t3 (by rw [Hm.out]) (by rw [← Hm.out]; exact hcr) (by rw [← Hm.out]; exact own_mono (own_below hor hb2) (Nat.le_trans hsz hdr.size)) hg1 (by rw [Htk.out]; exact ho1)
          have hb6 : Below W3.heap.size wr z6 := (hbx.mono hsz).grown hg1 (Nat.le_trans hsz hbx.size) (fun q hq => (t1.lt q hq).1)
          have r3z := (hb6.block G3 hG3).trans r3
          obtain ⟨⟨c0, c1⟩, g0, g1⟩ := row_fr r3z
          have r3n := snd_cell r3z (.slice (some ⟨gv, 0, none⟩) (k + 1) c9)
          have hTn := hT2.set (o := 1) (u := .slice (some ⟨gv, 0, none⟩) (k + 1) c9) hG3
          have hBz := below_setCell (g := G3) (o := 1) (hb.trans (hb6.mono hW13)) (by omega) (.slice (some ⟨gv, 0, none⟩) (k + 1) c9)
          (try dsimp only)
          refine hK.out _ _ trivial (fun hHeld => ?_)
          clear hK K
          try simp only [List.getElem_toArray, List.getElem_cons_zero, List.getElem_cons_succ, Act.put, List.setIfInBounds_toArray, List.set_cons_zero, List.set_cons_succ]
          have HZ6 := Lib.hid hb6.size
          refine wpAnyH_take (i := 6) (v := .pointer (some ⟨G3, 1, none⟩)) rfl (by kernel_rfl) (by kernel_rfl) (by kernel_rfl) (fun _ _ _ h => h) (Or.inl ⟨by rfl, fun w hSw => ?_⟩) (by assumption) ?_
          · obtain ⟨⟩ := hSw
            (go_simp <;> omega)
          try simp only [List.getElem_toArray, List.getElem_cons_zero, List.getElem_cons_succ, Act.put, List.setIfInBounds_toArray, List.set_cons_zero, List.set_cons_succ]
          refine wpAnyH_ready (rs := [7]) (by kernel_rfl) (by simp) ?_
          refine AllReadyH.cons rfl (fun K hK => ?_) AllReadyH.nil
          go_simp
          (try dsimp only)
          refine hK.out _ _ trivial (fun hHeld => ?_)
          clear hK K
          try simp only [List.getElem_toArray, List.getElem_cons_zero, List.getElem_cons_succ, Act.put, List.setIfInBounds_toArray, List.set_cons_zero, List.set_cons_succ]
          refine wpAnyH_done (by kernel_rfl) ?_ _
          go_wp2_with fail
          go_roundw
          case rel => exact ⟨k + 1, some ⟨gv, 0, none⟩, c9, by omega, by go_num, r3n, Lib.hid (by rw [Hts.out]; exact hTn), by have := HZ6.out; simp [World.setCell]; omega, hBz⟩
          case measure => simp [intOf]; omega
    · have hk2 : k = nV := by omega
      have hTF := hT.out
      rw [show V.take k = V by rw [hk2, HnV.out, List.take_length]] at hTF
      have Hk := Lib.hid hk2
      have hAr := hA.trans (hb.mono hA.size)
      have rrr := heap_keep hb rr
      have hoLr := own_below hoL hb
      clear hk2 hT
      obtain ⟨⟨y0, y1⟩, -, -⟩ := row_fr r3
      obtain ⟨⟨r0, r1⟩, s0, s1⟩ := row_fr rrr
      go_wp2_with fail
      have hGw := HG.out
      refine bodyPost_ret (results_cell_row rfl _ _ _ _ _ _ _ rfl (two_cells rrr (.slice aL nL cL2) (.slice av k cv)) Try.underlying57 rfl kinfoFd2) rfl ⟨⟨_, _, rfl, ?_, ?_⟩, below_setCell (below_setCell hAr (by omega) _) (by omega) _⟩
      · exact own_same (own_mono hoLr hsL) (fun q hq => heap_two_eq0 (.slice aL nL cL2) (.slice av k cv) (show q ≠ G + 1 by have := (hoLr.lt q hq).1; omega))
      · exact ((hTF.set (g := G + 1) (by omega)).set (g := G + 1) (by omega)).mono (by omega)
end Go.Proofs.Ytemlfklipkpacaa
