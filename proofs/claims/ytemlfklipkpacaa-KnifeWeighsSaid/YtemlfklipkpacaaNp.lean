import Derived.Test.YtemlfklipkpacaaNo
import Derived.Deep.Upon
import Derived.ArgAppend
/- The reference of package knife: Copy. -/
namespace Go.Proofs.Ytemlfklipkpacaa
open Go.RowKit

/-- `append([]T{}, l...)`: a copy in new memory. -/
theorem wp_copy {P : Program} {o : Oper} {a : Act} {w : World} {K : Act → World → Prop} {Q : Exit → Act → World → Prop} (s x : Operand) (t e : TypeId) (hop : o.op = Op.call { callee := Callee.builtin Builtin.append, args := #[s, x], argTypes := #[t, t] })
    (i : TypeInfo) (z : Value) (size bytes : Nat) (h1 : P.underlying t = some (.slice e)) (h2 : P.info? e = some i) (h3 : i.zero = some z) (h4 : i.size = size) (h5 : i.bytes = bytes) (h6 : z.cells.size = size) (h7 : 0 < size)
    (b base : Nat) (hs : a.eval s = .slice (some ⟨b, 0, none⟩) 0 0) (hb : w.heap[b]? = some (.cells #[] e (0, 0))) (hbb : base ≤ b) (hbw : base ≤ w.heap.size)
    (ao : Option Addr) (m c : Nat) (news : List Value) (hx : a.eval x = .slice ao m c) (hl : news.length = m * size) (hnone : ao = none → m = 0) (hnews : ∀ ad, ao = some ad → ∀ j u, news[j]? = some u → w.cell? (ad.add j) = some u)
    (b1 : m ≤ maxLen) (b2 : m * bytes ≤ 140737488355328)
    (hK : ∀ v' w', w'.ownsRow base e size v' m news → Below w.heap.size w w' → K (a.put o.dst v') w') : o.wp P a w K Q := by
  by_cases hm : m = 0
  · subst hm
    obtain rfl : news = [] := List.eq_nil_of_length_eq_zero (by simpa using hl)
    have hsrc : Src P i.size t (.slice ao 0 c) 0 [] w := by
      cases ao with
      | none => exact Src.ofNil w h1 c
      | some ad => exact Src.ofSlice w h1 ad 0 c [] (by simp) (by simp) (by simp)
    have hrun := run_append_nothing (P := P) w t t o.type e i h1 h2 (some ⟨b, 0, none⟩) 0 0 (Nat.le_refl _) _ hsrc
    unfold Oper.wp
    simp [execOp, hop, resolve, invoke, builtin, hs, hx, hrun, Result.andThen]
    exact hK _ _ ⟨by simp, .inr ⟨b, 0, #[], rfl, hbb, hb, Nat.le_refl _, Nat.zero_le _, by simp, by simp⟩⟩ (Below.refl _ _)
  · cases ao with
    | none => exact absurd (hnone rfl) hm
    | some ad =>
      obtain ⟨v', w', hrun, r1, r2⟩ := run_append_arg_grows (P := P) w t o.type e i z size bytes h1 h2 h3 h4 h5 h6 h7 ⟨b, 0, none⟩ 0 0 [] (by simp) (by simp) ad m c news hl (hnews ad rfl) (by omega) (by omega) (by simpa using b2)
      rw [Nat.zero_add, List.nil_append] at r1
      unfold Oper.wp
      simp [execOp, hop, resolve, invoke, builtin, hs, hx, hrun, Result.andThen]
      exact hK v' w' (own_mono r1 hbw) ((Below.refl _ w).grown r2 (Nat.le_refl _) (fun k e => by cases e))

theorem cell_one_at {w : World} {g h o p : Nat} {x : Value} (u : Value) (hne : h ≠ g) (hx : w.cell? ⟨h, o, none⟩ = some x) : (w.setCell ⟨g, p, none⟩ u).cell? ⟨h, o, none⟩ = some x := by
  rw [← hx]
  unfold World.cell?
  rw [heap_setCell_other _ _ _ _ (by show h ≠ g; exact hne)]
theorem ints_null {w : World} {ao : Option Addr} {l : List Int} (h : Ints w ao l) (e : ao = none) : l.length = 0 := by
  refine Nat.eq_zero_of_not_pos fun h0 => ?_
  obtain ⟨b, off, e2, -⟩ := h.cells h0
  rw [e] at e2
  cases e2

set_option maxRecDepth 100000 in
set_option maxHeartbeats 8000000 in
theorem sCopy_any (L : List Int) (V : List (List Int)) (aoL : Option Addr) (nL cL : Nat) (aoV : Option Addr) (nV cV : Nat) (w : World) (hf : Fld w aoL nL aoV nV L V) (hl : nL ≤ 100) (hv : nV ≤ 100) (hr : ∀ r ∈ V, r.length ≤ 100) :
    Calls Try.prog 54 #[.agg #[.slice aoL nL cL, .slice aoV nV cV]] w fun e w' => (∃ vL vV, e = .returned (.agg #[vL, vV]) ∧ w'.ownsRow w.heap.size 3 1 vL nL (L.map (Value.int .i64)) ∧ OTab w' w.heap.size vV V) ∧ Below w.heap.size w w' := by
  have HnL := Lib.hid hf.nl
  have HnV := Lib.hid hf.nv
  obtain ⟨i0, hi0, hz0, hz1, hz2⟩ := info_sl
  obtain ⟨i9, hi9, hy0, hy1, hy2⟩ := info_in
  have hA := below_alloc2 w (.cells #[.slice aoL nL cL, .slice aoV nV cV] 57) (.cells #[.slice none 0 0, .slice none 0 0] 57)
  have rf := heap_alloc2_old w (.cells #[.slice aoL nL cL, .slice aoV nV cV] 57) (.cells #[.slice none 0 0, .slice none 0 0] 57)
  have rr := heap_alloc2_new w (.cells #[.slice aoL nL cL, .slice aoV nV cV] 57) (.cells #[.slice none 0 0, .slice none 0 0] 57)
  go_enter Try.func54, Try.ntmps54
  go_upto_region 1 with fail
  generalize (w.alloc (.cells #[.slice aoL nL cL, .slice aoV nV cV] 57)).alloc (.cells #[.slice none 0 0, .slice none 0 0] 57) = W0 at hA rf rr ⊢
  obtain ⟨G, hG⟩ : ∃ g, g = w.heap.size := ⟨_, rfl⟩
  rw [← hG] at rf rr ⊢
  have HG := Lib.hid hG
  clear hG
  have hG1 : G + 1 < W0.heap.size := heap_lt rr
  replace hf := hf.below hA
  have hsL := hA.size
  obtain ⟨⟨x0, x1⟩, -, -⟩ := row_fr rf
  have halE := (Below.refl W0.heap.size W0).alloc (Nat.le_refl _) (.cells #[] 3)
  obtain ⟨⟨xe0, xe1⟩, -, -⟩ := row_fr (heap_keep halE rf)
  have hIe := hf.hL.below halE
  go_upto_region 2 with (first | (at_builtin; refine wpList_plain rfl fun K hK => ?_; refine wp_copy _ _ 39 3 (by rfl) i9 (.int .i64 0) 1 8 Try.underlying39 hi9 hy0 hy1 hy2 rfl (by decide) W0.heap.size W0.heap.size (by rfl) (heap_alloc_new W0 _) (Nat.le_refl _) (by simp) aoL nL cL (L.map (Value.int .i64)) (by rfl) (by rw [List.length_map, HnL.out]; omega) (fun e => by rw [HnL.out]; exact ints_null hIe e) (fun ad e => ints_flat (by rw [← e]; exact hIe)) (by unfold maxLen; omega) (by omega) ?_; intro vL w1 hoL hbL; obtain ⟨aL, cL2, rfl, -, -⟩ := own_ints hoL HnL.out; refine hK _ _ ?_))
  have hbW := halE.trans (hbL.mono halE.size)
  replace hf := hf.below hbW
  replace rf := heap_keep hbW rf
  replace rr := heap_keep hbW rr
  replace hA := hA.trans (hbW.mono hA.size)
  have hsW := hbW.size
  clear halE hbL hbW hIe x0 x1 xe0 xe1
  have r3 := heap_alloc_new w1 (.cells #[.slice aL nL cL2, .slice none 0 0] 57)
  have hal := (Below.refl w1.heap.size w1).alloc (Nat.le_refl _) (.cells #[.slice aL nL cL2, .slice none 0 0] 57)
  have hs3 : (w1.alloc (.cells #[.slice aL nL cL2, .slice none 0 0] 57)).heap.size = w1.heap.size + 1 := by simp
  generalize w1.alloc (.cells #[.slice aL nL cL2, .slice none 0 0] 57) = W3 at r3 hal hs3 ⊢
  obtain ⟨G3, hg3⟩ : ∃ g, g = w1.heap.size := ⟨_, rfl⟩
  rw [← hg3] at r3 hs3 ⊢
  have HG3 := Lib.hid hg3
  have hW13 : w1.heap.size ≤ W3.heap.size := hal.size
  have hG3w : w1.heap.size ≤ G3 := by omega
  clear hg3
  go_wp2_with fail
  go_loopw [4] (fun i wr => ∃ (k : Nat) (av : Option Addr) (cv : Nat), k ≤ nV ∧ i = .int .i64 k ∧ wr.heap[G3]? = some (.cells #[.slice aL nL cL2, .slice av k cv] 57 (0, 0)) ∧ Hid (OTab wr W3.heap.size (.slice av k cv) (V.take k)) ∧ W3.heap.size ≤ wr.heap.size ∧ Below w1.heap.size w1 wr) (fun i _ => nV - (intOf i).toNat)
  case atStart => exact ⟨0, none, 0, Nat.zero_le _, rfl, r3, Lib.hid otab_none, Nat.le_refl _, hal⟩
  case round =>
    clear r3 hal
    obtain ⟨k, av, cv, hk, rfl, r3, hT, hsz, hb⟩ := hrel
    have hG3 : G3 < W3.heap.size := by omega
    obtain ⟨⟨x0, x1⟩, -, -⟩ := row_fr (heap_keep hb rf)
    have hGw1 : G + 1 < w1.heap.size := heap_lt rr
    by_cases hlt : k < nV
    · have hkV : k < V.length := by have := HnV.out; omega
      have i1 : (k : Int) < (nV : Int) := by omega
      obtain ⟨bV, oV, aoi, ci, hav, zr, hci, hIk⟩ := (hf.below hb).hV.at hkV
      have hbV1 : bV < w1.heap.size := by
        obtain ⟨b', o', _, _, e', z', -, -⟩ := hf.hV.at hkV
        rw [hav] at e'
        cases e'
        exact block_lt_of_cell z'
      subst hav
      have hrk := hr (V.getD k []) (by rw [List.getD_eq_getElem?_getD, List.getElem?_eq_getElem hkV]; exact List.getElem_mem hkV)
      have Hts := Lib.hid (show V.take (k + 1) = V.take k ++ [V.getD k []] by rw [List.take_succ_eq_append_getElem hkV, List.getD_eq_getElem?_getD, List.getElem?_eq_getElem hkV]; rfl)
      have Htk := Lib.hid (show (V.take k).length = k by rw [List.length_take]; omega)
      obtain ⟨lk, hlk⟩ : ∃ l, l = V.getD k [] := ⟨_, rfl⟩
      rw [← hlk] at zr hci hIk hrk Hts
      clear hlk
      obtain ⟨m, hm⟩ : ∃ m, m = lk.length := ⟨_, rfl⟩
      have Hm := Lib.hid hm
      rw [← hm] at zr hci hrk
      clear hm
      have hmI : ((m : Int)).toNat = m := Int.toNat_natCast m
      obtain ⟨⟨y0, y1⟩, -, -⟩ := row_fr r3
      go_upto_region 5 with fail
      have hdr : Below wr.heap.size wr wr.drew := below_drewN (Below.refl wr.heap.size wr) 1
      have hS0 := And.intro x1 zr
      refine wp_region_held_drew (S := fun w' => w'.cell? ⟨G, 1, none⟩ = some (.slice (some ⟨bV, oV, none⟩) nV cV) ∧ w'.cell? ⟨bV, oV + k, none⟩ = some (.slice aoi m ci)) (by kernel_rfl) ⟨keep_cell hdr x1, keep_cell hdr zr⟩ (fun hHeld => ?_)
      refine wpAnyH_take (i := 0) (v := .pointer (some ⟨G3, 1, none⟩)) rfl (by kernel_rfl) (by kernel_rfl) (by kernel_rfl) (fun _ _ _ h => h) (Or.inl ⟨by rfl, fun w hSw => ?_⟩) (by assumption) ?_
      · obtain ⟨s0, s1⟩ := hSw
        (go_simp <;> omega)
      try simp only [List.getElem_toArray, List.getElem_cons_zero, Act.put, List.setIfInBounds_toArray, List.set_cons_zero, List.set_cons_succ]
      refine wpAnyH_take (i := 3) (v := .pointer (some ⟨G, 1, none⟩)) rfl (by kernel_rfl) (by kernel_rfl) (by kernel_rfl) (fun _ _ _ h => h) (Or.inl ⟨by rfl, fun w hSw => ?_⟩) (by assumption) ?_
      · obtain ⟨s0, s1⟩ := hSw
        (go_simp <;> omega)
      try simp only [List.getElem_toArray, List.getElem_cons_zero, List.getElem_cons_succ, Act.put, List.setIfInBounds_toArray, List.set_cons_zero, List.set_cons_succ]
      refine wpAnyH_take (i := 4) (v := .slice (some ⟨bV, oV, none⟩) nV cV) rfl (by kernel_rfl) (by kernel_rfl) (by kernel_rfl) (fun _ _ _ h => h) (Or.inl ⟨by rfl, fun w hSw => ?_⟩) (by assumption) ?_
      · obtain ⟨s0, s1⟩ := hSw
        (go_simp <;> omega)
      try simp only [List.getElem_toArray, List.getElem_cons_zero, List.getElem_cons_succ, Act.put, List.setIfInBounds_toArray, List.set_cons_zero, List.set_cons_succ]
      refine wpAnyH_take (i := 5) (v := .int .i64 k) rfl (by kernel_rfl) (by kernel_rfl) (by kernel_rfl) (fun _ _ _ h => h) (Or.inl ⟨by rfl, fun w hSw => ?_⟩) (by assumption) ?_
      · obtain ⟨s0, s1⟩ := hSw
        (go_simp <;> omega)
      try simp only [List.getElem_toArray, List.getElem_cons_zero, List.getElem_cons_succ, Act.put, List.setIfInBounds_toArray, List.set_cons_zero, List.set_cons_succ]
      refine wpAnyH_take (i := 6) (v := .pointer (some ⟨bV, oV + k, none⟩)) rfl (by kernel_rfl) (by kernel_rfl) (by kernel_rfl) (fun _ _ _ h => h) (Or.inl ⟨by rfl, fun w hSw => ?_⟩) (by assumption) ?_
      · obtain ⟨s0, s1⟩ := hSw
        (go_simp <;> omega)
      try simp only [List.getElem_toArray, List.getElem_cons_zero, List.getElem_cons_succ, Act.put, List.setIfInBounds_toArray, List.set_cons_zero, List.set_cons_succ]
      refine wpAnyH_take (i := 7) (v := .slice aoi m ci) rfl (by kernel_rfl) (by kernel_rfl) (by kernel_rfl) (fun _ _ _ h => h) (Or.inl ⟨by rfl, fun w hSw => ?_⟩) (by assumption) ?_
      · obtain ⟨s0, s1⟩ := hSw
        (go_simp <;> omega)
      try simp only [List.getElem_toArray, List.getElem_cons_zero, List.getElem_cons_succ, Act.put, List.setIfInBounds_toArray, List.set_cons_zero, List.set_cons_succ]
      refine wpAnyH_ready (rs := [1, 2]) (by kernel_rfl) (by simp) ?_
      refine AllReadyH.cons rfl (fun K hK => ?_) (AllReadyH.cons rfl (fun K hK => ?_) AllReadyH.nil)
      · have y1d := keep_cell hdr y1
        go_simp
        (try dsimp only)
        refine hK.out _ _ ⟨keep_cell hdr x1, keep_cell hdr zr⟩ (fun hHeld => ?_)
        clear hK K
        try simp only [List.getElem_toArray, List.getElem_cons_zero, List.getElem_cons_succ, Act.put, List.setIfInBounds_toArray, List.set_cons_zero, List.set_cons_succ]
        refine wpAnyH_ready (rs := [2]) (by kernel_rfl) (by simp) ?_
        refine AllReadyH.cons rfl (fun K hK => ?_) AllReadyH.nil
        go_simp
        have hde := hdr.alloc hdr.size (.cells #[] 3)
        (try dsimp only)
        refine hK.out _ _ ⟨keep_cell hde x1, keep_cell hde zr⟩ (fun hHeld => ?_)
        clear hK K
        try simp only [List.getElem_toArray, List.getElem_cons_zero, List.getElem_cons_succ, Act.put, List.setIfInBounds_toArray, List.set_cons_zero, List.set_cons_succ]
        refine wpAnyH_ready (rs := [8]) (by kernel_rfl) (by simp) ?_
        refine AllReadyH.cons rfl (fun K hK => ?_) AllReadyH.nil
        rw [if_pos (by rfl)]
        refine wp_copy _ _ 39 3 (by rfl) i9 (.int .i64 0) 1 8 Try.underlying39 hi9 hy0 hy1 hy2 rfl (by decide) wr.heap.size W3.heap.size (by rfl) (heap_alloc_new wr.drew _) hsz (Nat.le_trans hsz hde.size) aoi m ci (lk.map (Value.int .i64)) (by rfl) (by rw [List.length_map, Hm.out]; omega) (fun e => by rw [Hm.out]; exact ints_null hIk e) (fun ad e => ints_flat (by rw [← e]; exact hIk.below hde)) (by unfold maxLen; omega) (by omega) ?_
        intro v8 u1 hor hb8
        obtain ⟨ar, cr, rfl, hcr, -⟩ := own_ints hor Hm.out
        have hdu := hde.trans (hb8.mono hde.size)
        (try dsimp only)
        refine hK.out _ _ ⟨keep_cell hdu x1, keep_cell hdu zr⟩ (fun hHeld => ?_)
        clear hK K
        try simp only [List.getElem_toArray, List.getElem_cons_zero, List.getElem_cons_succ, Act.put, List.setIfInBounds_toArray, List.set_cons_zero, List.set_cons_succ]
        refine wpAnyH_ready (rs := [9]) (by kernel_rfl) (by simp) ?_
        refine AllReadyH.cons rfl (fun K hK => ?_) AllReadyH.nil
        go_simp
        have hdw := hdu.alloc hdu.size (.cells #[.slice ar m cr] 39)
        (try dsimp only)
        refine hK.out _ _ ⟨keep_cell hdw x1, keep_cell hdw zr⟩ (fun hHeld => ?_)
        clear hK K
        try simp only [List.getElem_toArray, List.getElem_cons_zero, List.getElem_cons_succ, Act.put, List.setIfInBounds_toArray, List.set_cons_zero, List.set_cons_succ]
        have hb2 := (Below.refl u1.heap.size u1).alloc (Nat.le_refl _) (.cells #[.slice ar m cr] 39)
        obtain ⟨rs, t1, t2, t3⟩ := (hT.out.below hdw).rows
        rw [Htk.out] at t1 t2
        refine wpAnyH_ready (rs := [10]) (by kernel_rfl) (by simp) ?_
        refine AllReadyH.cons rfl (fun K hK => ?_) AllReadyH.nil
        rw [if_pos (by rfl)]
        refine wp_append_own _ _ _ _ (by rfl) W3.heap.size 39 i0 (.slice none 0 0) 1 24 Try.underlying55 hi0 hz0 hz1 hz2 rfl (by decide) _ k rs (by rfl) t1 ⟨u1.heap.size, 0, none⟩ 1 1 [.slice ar m cr] (by rfl) rfl (World.news_of_block (cs := #[.slice ar m cr]) (t := 39) (fr := (0, 0)) (heap_alloc_new u1 _)) (by simp [Value.oneCell']) (by unfold maxLen; omega) (by omega) (Nat.le_trans hsz hdw.size) ?_
        intro v1 z6 ho1 hg1 _
        obtain ⟨gv, c9, rfl, -, -, -, -⟩ := own_cells ho1 (by omega)
        have hT2 : OTab z6 W3.heap.size (.slice (some ⟨gv, 0, none⟩) (k + 1) c9) (V.take k ++ [lk]) := otab_push (r := .slice ar m cr) (rs := rs) (V := V.take k) (by rw [Htk.out]; exact t1) (by rw [Htk.out]; exact t2) t3 (by rw [Hm.out]) (by rw [← Hm.out]; exact hcr) (by rw [← Hm.out]; exact own_below hor hb2) hg1 (by rw [Htk.out]; exact ho1)
        have hb6 : Below W3.heap.size wr z6 := (hdw.mono hsz).grown hg1 (Nat.le_trans hsz hdw.size) (fun q hq => (t1.lt q hq).1)
        have r3z := (hb6.block G3 hG3).trans r3
        obtain ⟨⟨c0, c1⟩, g0, g1⟩ := row_fr r3z
        have r3n := snd_cell r3z (.slice (some ⟨gv, 0, none⟩) (k + 1) c9)
        have hTn := hT2.set (o := 1) (u := .slice (some ⟨gv, 0, none⟩) (k + 1) c9) hG3
        have hBz := below_setCell (g := G3) (o := 1) (hb.trans (hb6.mono hW13)) (by omega) (.slice (some ⟨gv, 0, none⟩) (k + 1) c9)
        have x6 := (hb6.cell (p := ⟨G, 1, none⟩) (show G < W3.heap.size by omega)).trans x1
        have z6r := (hb6.cell (p := ⟨bV, oV + k, none⟩) (show bV < W3.heap.size by omega)).trans zr
        (try dsimp only)
        refine hK.out _ _ ⟨x6, z6r⟩ (fun hHeld => ?_)
        clear hK K
        try simp only [List.getElem_toArray, List.getElem_cons_zero, List.getElem_cons_succ, Act.put, List.setIfInBounds_toArray, List.set_cons_zero, List.set_cons_succ]
        have HZ6 := Lib.hid hb6.size
        refine wpAnyH_take (i := 11) (v := .pointer (some ⟨G3, 1, none⟩)) rfl (by kernel_rfl) (by kernel_rfl) (by kernel_rfl) (fun _ _ _ h => h) (Or.inl ⟨by rfl, fun w hSw => ?_⟩) (by assumption) ?_
        · obtain ⟨s0, s1⟩ := hSw
          (go_simp <;> omega)
        try simp only [List.getElem_toArray, List.getElem_cons_zero, List.getElem_cons_succ, Act.put, List.setIfInBounds_toArray, List.set_cons_zero, List.set_cons_succ]
        refine wpAnyH_ready (rs := [12]) (by kernel_rfl) (by simp) ?_
        refine AllReadyH.cons rfl (fun K hK => ?_) AllReadyH.nil
        go_simp
        (try dsimp only)
        refine hK.out _ _ ⟨cell_one_at _ (show G ≠ G3 by omega) x6, cell_one_at _ (show bV ≠ G3 by omega) z6r⟩ (fun hHeld => ?_)
        clear hK K
        try simp only [List.getElem_toArray, List.getElem_cons_zero, List.getElem_cons_succ, Act.put, List.setIfInBounds_toArray, List.set_cons_zero, List.set_cons_succ]
        refine wpAnyH_done (by kernel_rfl) ?_ _
        go_wp2_with fail
        go_roundw
        case rel => exact ⟨k + 1, some ⟨gv, 0, none⟩, c9, by omega, by go_num, r3n, Lib.hid (by rw [Hts.out]; exact hTn), by have := HZ6.out; simp [World.setCell]; omega, hBz⟩
        case measure => simp [intOf]; omega
      · go_simp
        have hde := hdr.alloc hdr.size (.cells #[] 3)
        (try dsimp only)
        refine hK.out _ _ ⟨keep_cell hde x1, keep_cell hde zr⟩ (fun hHeld => ?_)
        clear hK K
        try simp only [List.getElem_toArray, List.getElem_cons_zero, List.getElem_cons_succ, Act.put, List.setIfInBounds_toArray, List.set_cons_zero, List.set_cons_succ]
        refine wpAnyH_ready (rs := [1, 8]) (by kernel_rfl) (by simp) ?_
        refine AllReadyH.cons rfl (fun K hK => ?_) (AllReadyH.cons rfl (fun K hK => ?_) AllReadyH.nil)
        · have y1d := keep_cell ((Below.refl wr.heap.size wr).alloc (Nat.le_refl _) (.cells #[] 3)) y1
          go_simp
          (try dsimp only)
          refine hK.out _ _ ⟨keep_cell hde x1, keep_cell hde zr⟩ (fun hHeld => ?_)
          clear hK K
          try simp only [List.getElem_toArray, List.getElem_cons_zero, List.getElem_cons_succ, Act.put, List.setIfInBounds_toArray, List.set_cons_zero, List.set_cons_succ]
          refine wpAnyH_ready (rs := [8]) (by kernel_rfl) (by simp) ?_
          refine AllReadyH.cons rfl (fun K hK => ?_) AllReadyH.nil
          rw [if_pos (by rfl)]
          refine wp_copy _ _ 39 3 (by rfl) i9 (.int .i64 0) 1 8 Try.underlying39 hi9 hy0 hy1 hy2 rfl (by decide) wr.heap.size W3.heap.size (by rfl) (heap_alloc_new wr.drew _) hsz (Nat.le_trans hsz hde.size) aoi m ci (lk.map (Value.int .i64)) (by rfl) (by rw [List.length_map, Hm.out]; omega) (fun e => by rw [Hm.out]; exact ints_null hIk e) (fun ad e => ints_flat (by rw [← e]; exact hIk.below hde)) (by unfold maxLen; omega) (by omega) ?_
          intro v8 u1 hor hb8
          obtain ⟨ar, cr, rfl, hcr, -⟩ := own_ints hor Hm.out
          have hdu := hde.trans (hb8.mono hde.size)
          (try dsimp only)
          refine hK.out _ _ ⟨keep_cell hdu x1, keep_cell hdu zr⟩ (fun hHeld => ?_)
          clear hK K
          try simp only [List.getElem_toArray, List.getElem_cons_zero, List.getElem_cons_succ, Act.put, List.setIfInBounds_toArray, List.set_cons_zero, List.set_cons_succ]
          refine wpAnyH_ready (rs := [9]) (by kernel_rfl) (by simp) ?_
          refine AllReadyH.cons rfl (fun K hK => ?_) AllReadyH.nil
          go_simp
          have hdw := hdu.alloc hdu.size (.cells #[.slice ar m cr] 39)
          (try dsimp only)
          refine hK.out _ _ ⟨keep_cell hdw x1, keep_cell hdw zr⟩ (fun hHeld => ?_)
          clear hK K
          try simp only [List.getElem_toArray, List.getElem_cons_zero, List.getElem_cons_succ, Act.put, List.setIfInBounds_toArray, List.set_cons_zero, List.set_cons_succ]
          have hb2 := (Below.refl u1.heap.size u1).alloc (Nat.le_refl _) (.cells #[.slice ar m cr] 39)
          obtain ⟨rs, t1, t2, t3⟩ := (hT.out.below hdw).rows
          rw [Htk.out] at t1 t2
          refine wpAnyH_ready (rs := [10]) (by kernel_rfl) (by simp) ?_
          refine AllReadyH.cons rfl (fun K hK => ?_) AllReadyH.nil
          rw [if_pos (by rfl)]
          refine wp_append_own _ _ _ _ (by rfl) W3.heap.size 39 i0 (.slice none 0 0) 1 24 Try.underlying55 hi0 hz0 hz1 hz2 rfl (by decide) _ k rs (by rfl) t1 ⟨u1.heap.size, 0, none⟩ 1 1 [.slice ar m cr] (by rfl) rfl (World.news_of_block (cs := #[.slice ar m cr]) (t := 39) (fr := (0, 0)) (heap_alloc_new u1 _)) (by simp [Value.oneCell']) (by unfold maxLen; omega) (by omega) (Nat.le_trans hsz hdw.size) ?_
          intro v1 z6 ho1 hg1 _
          obtain ⟨gv, c9, rfl, -, -, -, -⟩ := own_cells ho1 (by omega)
          have hT2 : OTab z6 W3.heap.size (.slice (some ⟨gv, 0, none⟩) (k + 1) c9) (V.take k ++ [lk]) := otab_push (r := .slice ar m cr) (rs := rs) (V := V.take k) (by rw [Htk.out]; exact t1) (by rw [Htk.out]; exact t2) t3 (by rw [Hm.out]) (by rw [← Hm.out]; exact hcr) (by rw [← Hm.out]; exact own_below hor hb2) hg1 (by rw [Htk.out]; exact ho1)
          have hb6 : Below W3.heap.size wr z6 := (hdw.mono hsz).grown hg1 (Nat.le_trans hsz hdw.size) (fun q hq => (t1.lt q hq).1)
          have r3z := (hb6.block G3 hG3).trans r3
          obtain ⟨⟨c0, c1⟩, g0, g1⟩ := row_fr r3z
          have r3n := snd_cell r3z (.slice (some ⟨gv, 0, none⟩) (k + 1) c9)
          have hTn := hT2.set (o := 1) (u := .slice (some ⟨gv, 0, none⟩) (k + 1) c9) hG3
          have hBz := below_setCell (g := G3) (o := 1) (hb.trans (hb6.mono hW13)) (by omega) (.slice (some ⟨gv, 0, none⟩) (k + 1) c9)
          have x6 := (hb6.cell (p := ⟨G, 1, none⟩) (show G < W3.heap.size by omega)).trans x1
          have z6r := (hb6.cell (p := ⟨bV, oV + k, none⟩) (show bV < W3.heap.size by omega)).trans zr
          (try dsimp only)
          refine hK.out _ _ ⟨x6, z6r⟩ (fun hHeld => ?_)
          clear hK K
          try simp only [List.getElem_toArray, List.getElem_cons_zero, List.getElem_cons_succ, Act.put, List.setIfInBounds_toArray, List.set_cons_zero, List.set_cons_succ]
          have HZ6 := Lib.hid hb6.size
          refine wpAnyH_take (i := 11) (v := .pointer (some ⟨G3, 1, none⟩)) rfl (by kernel_rfl) (by kernel_rfl) (by kernel_rfl) (fun _ _ _ h => h) (Or.inl ⟨by rfl, fun w hSw => ?_⟩) (by assumption) ?_
          · obtain ⟨s0, s1⟩ := hSw
            (go_simp <;> omega)
          try simp only [List.getElem_toArray, List.getElem_cons_zero, List.getElem_cons_succ, Act.put, List.setIfInBounds_toArray, List.set_cons_zero, List.set_cons_succ]
          refine wpAnyH_ready (rs := [12]) (by kernel_rfl) (by simp) ?_
          refine AllReadyH.cons rfl (fun K hK => ?_) AllReadyH.nil
          go_simp
          (try dsimp only)
          refine hK.out _ _ ⟨cell_one_at _ (show G ≠ G3 by omega) x6, cell_one_at _ (show bV ≠ G3 by omega) z6r⟩ (fun hHeld => ?_)
          clear hK K
          try simp only [List.getElem_toArray, List.getElem_cons_zero, List.getElem_cons_succ, Act.put, List.setIfInBounds_toArray, List.set_cons_zero, List.set_cons_succ]
          refine wpAnyH_done (by kernel_rfl) ?_ _
          go_wp2_with fail
          go_roundw
          case rel => exact ⟨k + 1, some ⟨gv, 0, none⟩, c9, by omega, by go_num, r3n, Lib.hid (by rw [Hts.out]; exact hTn), by have := HZ6.out; simp [World.setCell]; omega, hBz⟩
          case measure => simp [intOf]; omega
        · rw [if_pos (by rfl)]
          refine wp_copy _ _ 39 3 (by rfl) i9 (.int .i64 0) 1 8 Try.underlying39 hi9 hy0 hy1 hy2 rfl (by decide) wr.heap.size W3.heap.size (by rfl) (heap_alloc_new wr.drew _) hsz (Nat.le_trans hsz hde.size) aoi m ci (lk.map (Value.int .i64)) (by rfl) (by rw [List.length_map, Hm.out]; omega) (fun e => by rw [Hm.out]; exact ints_null hIk e) (fun ad e => ints_flat (by rw [← e]; exact hIk.below hde)) (by unfold maxLen; omega) (by omega) ?_
          intro v8 u1 hor hb8
          obtain ⟨ar, cr, rfl, hcr, -⟩ := own_ints hor Hm.out
          have hdu := hde.trans (hb8.mono hde.size)
          (try dsimp only)
          refine hK.out _ _ ⟨keep_cell hdu x1, keep_cell hdu zr⟩ (fun hHeld => ?_)
          clear hK K
          try simp only [List.getElem_toArray, List.getElem_cons_zero, List.getElem_cons_succ, Act.put, List.setIfInBounds_toArray, List.set_cons_zero, List.set_cons_succ]
          refine wpAnyH_ready (rs := [1, 9]) (by kernel_rfl) (by simp) ?_
          refine AllReadyH.cons rfl (fun K hK => ?_) (AllReadyH.cons rfl (fun K hK => ?_) AllReadyH.nil)
          · have y1d := keep_cell hdu y1
            go_simp
            (try dsimp only)
            refine hK.out _ _ ⟨keep_cell hdu x1, keep_cell hdu zr⟩ (fun hHeld => ?_)
            clear hK K
            try simp only [List.getElem_toArray, List.getElem_cons_zero, List.getElem_cons_succ, Act.put, List.setIfInBounds_toArray, List.set_cons_zero, List.set_cons_succ]
            refine wpAnyH_ready (rs := [9]) (by kernel_rfl) (by simp) ?_
            refine AllReadyH.cons rfl (fun K hK => ?_) AllReadyH.nil
            go_simp
            have hdw := hdu.alloc hdu.size (.cells #[.slice ar m cr] 39)
            (try dsimp only)
            refine hK.out _ _ ⟨keep_cell hdw x1, keep_cell hdw zr⟩ (fun hHeld => ?_)
            clear hK K
            try simp only [List.getElem_toArray, List.getElem_cons_zero, List.getElem_cons_succ, Act.put, List.setIfInBounds_toArray, List.set_cons_zero, List.set_cons_succ]
            have hb2 := (Below.refl u1.heap.size u1).alloc (Nat.le_refl _) (.cells #[.slice ar m cr] 39)
            obtain ⟨rs, t1, t2, t3⟩ := (hT.out.below hdw).rows
            rw [Htk.out] at t1 t2
            refine wpAnyH_ready (rs := [10]) (by kernel_rfl) (by simp) ?_
            refine AllReadyH.cons rfl (fun K hK => ?_) AllReadyH.nil
            rw [if_pos (by rfl)]
            refine wp_append_own _ _ _ _ (by rfl) W3.heap.size 39 i0 (.slice none 0 0) 1 24 Try.underlying55 hi0 hz0 hz1 hz2 rfl (by decide) _ k rs (by rfl) t1 ⟨u1.heap.size, 0, none⟩ 1 1 [.slice ar m cr] (by rfl) rfl (World.news_of_block (cs := #[.slice ar m cr]) (t := 39) (fr := (0, 0)) (heap_alloc_new u1 _)) (by simp [Value.oneCell']) (by unfold maxLen; omega) (by omega) (Nat.le_trans hsz hdw.size) ?_
            intro v1 z6 ho1 hg1 _
            obtain ⟨gv, c9, rfl, -, -, -, -⟩ := own_cells ho1 (by omega)
            have hT2 : OTab z6 W3.heap.size (.slice (some ⟨gv, 0, none⟩) (k + 1) c9) (V.take k ++ [lk]) := otab_push (r := .slice ar m cr) (rs := rs) (V := V.take k) (by rw [Htk.out]; exact t1) (by rw [Htk.out]; exact t2) t3 (by rw [Hm.out]) (by rw [← Hm.out]; exact hcr) (by rw [← Hm.out]; exact own_below hor hb2) hg1 (by rw [Htk.out]; exact ho1)
            have hb6 : Below W3.heap.size wr z6 := (hdw.mono hsz).grown hg1 (Nat.le_trans hsz hdw.size) (fun q hq => (t1.lt q hq).1)
            have r3z := (hb6.block G3 hG3).trans r3
            obtain ⟨⟨c0, c1⟩, g0, g1⟩ := row_fr r3z
            have r3n := snd_cell r3z (.slice (some ⟨gv, 0, none⟩) (k + 1) c9)
            have hTn := hT2.set (o := 1) (u := .slice (some ⟨gv, 0, none⟩) (k + 1) c9) hG3
            have hBz := below_setCell (g := G3) (o := 1) (hb.trans (hb6.mono hW13)) (by omega) (.slice (some ⟨gv, 0, none⟩) (k + 1) c9)
            have x6 := (hb6.cell (p := ⟨G, 1, none⟩) (show G < W3.heap.size by omega)).trans x1
            have z6r := (hb6.cell (p := ⟨bV, oV + k, none⟩) (show bV < W3.heap.size by omega)).trans zr
            (try dsimp only)
            refine hK.out _ _ ⟨x6, z6r⟩ (fun hHeld => ?_)
            clear hK K
            try simp only [List.getElem_toArray, List.getElem_cons_zero, List.getElem_cons_succ, Act.put, List.setIfInBounds_toArray, List.set_cons_zero, List.set_cons_succ]
            have HZ6 := Lib.hid hb6.size
            refine wpAnyH_take (i := 11) (v := .pointer (some ⟨G3, 1, none⟩)) rfl (by kernel_rfl) (by kernel_rfl) (by kernel_rfl) (fun _ _ _ h => h) (Or.inl ⟨by rfl, fun w hSw => ?_⟩) (by assumption) ?_
            · obtain ⟨s0, s1⟩ := hSw
              (go_simp <;> omega)
            try simp only [List.getElem_toArray, List.getElem_cons_zero, List.getElem_cons_succ, Act.put, List.setIfInBounds_toArray, List.set_cons_zero, List.set_cons_succ]
            refine wpAnyH_ready (rs := [12]) (by kernel_rfl) (by simp) ?_
            refine AllReadyH.cons rfl (fun K hK => ?_) AllReadyH.nil
            go_simp
            (try dsimp only)
            refine hK.out _ _ ⟨cell_one_at _ (show G ≠ G3 by omega) x6, cell_one_at _ (show bV ≠ G3 by omega) z6r⟩ (fun hHeld => ?_)
            clear hK K
            try simp only [List.getElem_toArray, List.getElem_cons_zero, List.getElem_cons_succ, Act.put, List.setIfInBounds_toArray, List.set_cons_zero, List.set_cons_succ]
            refine wpAnyH_done (by kernel_rfl) ?_ _
            go_wp2_with fail
            go_roundw
            case rel => exact ⟨k + 1, some ⟨gv, 0, none⟩, c9, by omega, by go_num, r3n, Lib.hid (by rw [Hts.out]; exact hTn), by have := HZ6.out; simp [World.setCell]; omega, hBz⟩
            case measure => simp [intOf]; omega
          · go_simp
            have hdw := hdu.alloc hdu.size (.cells #[.slice ar m cr] 39)
            (try dsimp only)
            refine hK.out _ _ ⟨keep_cell hdw x1, keep_cell hdw zr⟩ (fun hHeld => ?_)
            clear hK K
            try simp only [List.getElem_toArray, List.getElem_cons_zero, List.getElem_cons_succ, Act.put, List.setIfInBounds_toArray, List.set_cons_zero, List.set_cons_succ]
            have y1d := keep_cell hdw y1
            refine wpAnyH_ready (rs := [1]) (by kernel_rfl) (by simp) ?_
            refine AllReadyH.cons rfl (fun K hK => ?_) AllReadyH.nil
            go_simp
            (try dsimp only)
            refine hK.out _ _ ⟨keep_cell hdw x1, keep_cell hdw zr⟩ (fun hHeld => ?_)
            clear hK K
            try simp only [List.getElem_toArray, List.getElem_cons_zero, List.getElem_cons_succ, Act.put, List.setIfInBounds_toArray, List.set_cons_zero, List.set_cons_succ]
            have hb2 := (Below.refl u1.heap.size u1).alloc (Nat.le_refl _) (.cells #[.slice ar m cr] 39)
            obtain ⟨rs, t1, t2, t3⟩ := (hT.out.below hdw).rows
            rw [Htk.out] at t1 t2
            refine wpAnyH_ready (rs := [10]) (by kernel_rfl) (by simp) ?_
            refine AllReadyH.cons rfl (fun K hK => ?_) AllReadyH.nil
            rw [if_pos (by rfl)]
            refine wp_append_own _ _ _ _ (by rfl) W3.heap.size 39 i0 (.slice none 0 0) 1 24 Try.underlying55 hi0 hz0 hz1 hz2 rfl (by decide) _ k rs (by rfl) t1 ⟨u1.heap.size, 0, none⟩ 1 1 [.slice ar m cr] (by rfl) rfl (World.news_of_block (cs := #[.slice ar m cr]) (t := 39) (fr := (0, 0)) (heap_alloc_new u1 _)) (by simp [Value.oneCell']) (by unfold maxLen; omega) (by omega) (Nat.le_trans hsz hdw.size) ?_
            intro v1 z6 ho1 hg1 _
            obtain ⟨gv, c9, rfl, -, -, -, -⟩ := own_cells ho1 (by omega)
            have hT2 : OTab z6 W3.heap.size (.slice (some ⟨gv, 0, none⟩) (k + 1) c9) (V.take k ++ [lk]) := otab_push (r := .slice ar m cr) (rs := rs) (V := V.take k) (by rw [Htk.out]; exact t1) (by rw [Htk.out]; exact t2) t3 (by rw [Hm.out]) (by rw [← Hm.out]; exact hcr) (by rw [← Hm.out]; exact own_below hor hb2) hg1 (by rw [Htk.out]; exact ho1)
            have hb6 : Below W3.heap.size wr z6 := (hdw.mono hsz).grown hg1 (Nat.le_trans hsz hdw.size) (fun q hq => (t1.lt q hq).1)
            have r3z := (hb6.block G3 hG3).trans r3
            obtain ⟨⟨c0, c1⟩, g0, g1⟩ := row_fr r3z
            have r3n := snd_cell r3z (.slice (some ⟨gv, 0, none⟩) (k + 1) c9)
            have hTn := hT2.set (o := 1) (u := .slice (some ⟨gv, 0, none⟩) (k + 1) c9) hG3
            have hBz := below_setCell (g := G3) (o := 1) (hb.trans (hb6.mono hW13)) (by omega) (.slice (some ⟨gv, 0, none⟩) (k + 1) c9)
            have x6 := (hb6.cell (p := ⟨G, 1, none⟩) (show G < W3.heap.size by omega)).trans x1
            have z6r := (hb6.cell (p := ⟨bV, oV + k, none⟩) (show bV < W3.heap.size by omega)).trans zr
            (try dsimp only)
            refine hK.out _ _ ⟨x6, z6r⟩ (fun hHeld => ?_)
            clear hK K
            try simp only [List.getElem_toArray, List.getElem_cons_zero, List.getElem_cons_succ, Act.put, List.setIfInBounds_toArray, List.set_cons_zero, List.set_cons_succ]
            have HZ6 := Lib.hid hb6.size
            refine wpAnyH_take (i := 11) (v := .pointer (some ⟨G3, 1, none⟩)) rfl (by kernel_rfl) (by kernel_rfl) (by kernel_rfl) (fun _ _ _ h => h) (Or.inl ⟨by rfl, fun w hSw => ?_⟩) (by assumption) ?_
            · obtain ⟨s0, s1⟩ := hSw
              (go_simp <;> omega)
            try simp only [List.getElem_toArray, List.getElem_cons_zero, List.getElem_cons_succ, Act.put, List.setIfInBounds_toArray, List.set_cons_zero, List.set_cons_succ]
            refine wpAnyH_ready (rs := [12]) (by kernel_rfl) (by simp) ?_
            refine AllReadyH.cons rfl (fun K hK => ?_) AllReadyH.nil
            go_simp
            (try dsimp only)
            refine hK.out _ _ ⟨cell_one_at _ (show G ≠ G3 by omega) x6, cell_one_at _ (show bV ≠ G3 by omega) z6r⟩ (fun hHeld => ?_)
            clear hK K
            try simp only [List.getElem_toArray, List.getElem_cons_zero, List.getElem_cons_succ, Act.put, List.setIfInBounds_toArray, List.set_cons_zero, List.set_cons_succ]
            refine wpAnyH_done (by kernel_rfl) ?_ _
            go_wp2_with fail
            go_roundw
            case rel => exact ⟨k + 1, some ⟨gv, 0, none⟩, c9, by omega, by go_num, r3n, Lib.hid (by rw [Hts.out]; exact hTn), by have := HZ6.out; simp [World.setCell]; omega, hBz⟩
            case measure => simp [intOf]; omega
    · have hk2 : k = nV := by omega
      have hTF := hT.out
      rw [show V.take k = V by rw [hk2, HnV.out, List.take_length]] at hTF
      have Hk := Lib.hid hk2
      have hAr := hA.trans (hb.mono hA.size)
      have rrr := heap_keep hb rr
      have hoLr := own_below hoL hb
      clear hk2 hT
      obtain ⟨⟨y0, y1⟩, -, -⟩ := row_fr r3
      obtain ⟨⟨r0, r1⟩, s0, s1⟩ := row_fr rrr
      go_wp2_with fail
      have hGw := HG.out
      refine bodyPost_ret (results_cell_row rfl _ _ _ _ _ _ _ rfl (two_cells rrr (.slice aL nL cL2) (.slice av k cv)) Try.underlying57 rfl kinfoFd2) rfl ⟨⟨_, _, rfl, ?_, ?_⟩, below_setCell (below_setCell hAr (by omega) _) (by omega) _⟩
      · exact own_same (own_mono hoLr hsL) (fun q hq => heap_two_eq0 (.slice aL nL cL2) (.slice av k cv) (show q ≠ G + 1 by have := (hoLr.lt q hq).1; omega))
      · exact ((hTF.set (g := G + 1) (by omega)).set (g := G + 1) (by omega)).mono (by omega)
end Go.Proofs.Ytemlfklipkpacaa
