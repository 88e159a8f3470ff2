import Derived.Test.YtemlfklipkpacaaNp
import Derived.Test.YtemlfklipkpacaaLf
/- The reference of package knife: Without. -/
namespace Go.Proofs.Ytemlfklipkpacaa
open Go.RowKit

/-- A table of numbers with rows of the call's own; the row of rows is newer. -/
structure OTab2 (w : World) (bo bi : Nat) (v : Value) (V : List (List Int)) : Prop where
  rows : ∃ rs : List Value, w.ownsRow bo 39 1 v V.length rs ∧ rs.length = V.length ∧ ∀ k (_ : k < V.length), ∃ ao cap, rs[k]? = some (.slice ao (V.getD k []).length cap) ∧ (V.getD k []).length ≤ cap ∧ w.ownsRow bi 3 1 (.slice ao (V.getD k []).length cap) (V.getD k []).length ((V.getD k []).map (Value.int .i64))
theorem OTab2.one {w : World} {bo bi : Nat} {v : Value} {V : List (List Int)} (h : OTab2 w bo bi v V) (hb : bi ≤ bo) : OTab w bi v V := by
  obtain ⟨rs, h1, h2, h3⟩ := h.rows
  exact ⟨rs, own_mono h1 hb, h2, h3⟩
theorem OTab2.below {w w' : World} {bo bi : Nat} {v : Value} {V : List (List Int)} (h : OTab2 w bo bi v V) (hb : Below w.heap.size w w') : OTab2 w' bo bi v V := by
  obtain ⟨rs, h1, h2, h3⟩ := h.rows
  refine ⟨rs, own_below h1 hb, h2, fun k hk => ?_⟩
  obtain ⟨ao, cap, a1, a2, a3⟩ := h3 k hk
  exact ⟨ao, cap, a1, a2, own_below a3 hb⟩
theorem OTab2.set {w : World} {bo bi g o : Nat} {v u : Value} {V : List (List Int)} {cs : Array Value} {fr : Nat × Nat} (h : OTab2 w bo bi v V) (hg : w.heap[g]? = some (.cells cs 57 fr)) : OTab2 (w.setCell ⟨g, o, none⟩ u) bo bi v V := by
  obtain ⟨rs, h1, h2, h3⟩ := h.rows
  refine ⟨rs, own_setT h1 hg (by decide), h2, fun k hk => ?_⟩
  obtain ⟨ao, cap, a1, a2, a3⟩ := h3 k hk
  exact ⟨ao, cap, a1, a2, own_setT a3 hg (by decide)⟩
theorem otab2_none {w : World} {bo bi : Nat} : OTab2 w bo bi (.slice none 0 0) [] := ⟨[], ⟨rfl, .inl ⟨rfl, rfl⟩⟩, rfl, fun k hk => absurd hk (by simp)⟩
theorem otab2_push {w w' : World} {bo bi : Nat} {v v' r : Value} {V : List (List Int)} {l : List Int} {rs : List Value} {ao : Option Addr} {cap : Nat} (h1 : w.ownsRow bo 39 1 v V.length rs) (h2 : rs.length = V.length)
    (h3 : ∀ k (_ : k < V.length), ∃ ao cap, rs[k]? = some (.slice ao (V.getD k []).length cap) ∧ (V.getD k []).length ≤ cap ∧ w.ownsRow bi 3 1 (.slice ao (V.getD k []).length cap) (V.getD k []).length ((V.getD k []).map (Value.int .i64)))
    (hr : r = .slice ao l.length cap) (hc : l.length ≤ cap) (ho : w.ownsRow bi 3 1 r l.length (l.map (Value.int .i64))) (hg : w.grownBy w' v.ownBlock) (h' : w'.ownsRow bo 39 1 v' (V.length + 1) (rs ++ [r])) : OTab2 w' bo bi v' (V ++ [l]) := by
  have keep : ∀ {u : Value} {n : Nat} {xs : List Value}, w.ownsRow bi 3 1 u n xs → w'.ownsRow bi 3 1 u n xs := fun {u n xs} hu => own_same hu (fun k hk => by
    refine hg.block k (hu.lt k hk).2 (fun e => ?_)
    obtain ⟨c1, e1⟩ := own_row1 hu k hk
    obtain ⟨c2, e2⟩ := own_row1 h1 k e.symm
    rw [e1] at e2
    simp at e2)
  refine ⟨rs ++ [r], by rw [List.length_append]; exact h', by simp [h2], fun k hk => ?_⟩
  rw [List.length_append, List.length_cons, List.length_nil] at hk
  by_cases hkl : k < V.length
  · have e : (V ++ [l]).getD k [] = V.getD k [] := by
      rw [List.getD_eq_getElem?_getD, List.getD_eq_getElem?_getD, List.getElem?_append_left hkl]
    obtain ⟨ao', cap', a1, a2, a3⟩ := h3 k hkl
    rw [e, List.getElem?_append_left (by omega)]
    exact ⟨ao', cap', a1, a2, keep a3⟩
  · have e0 : k = V.length := by omega
    subst e0
    have e : (V ++ [l]).getD V.length [] = l := by
      rw [List.getD_eq_getElem?_getD, List.getElem?_append_right (Nat.le_refl _)]; simp
    rw [e, List.getElem?_append_right (by omega), h2, Nat.sub_self]
    refine ⟨ao, cap, by rw [hr]; rfl, hc, ?_⟩
    rw [← hr]
    exact keep ho
/-- The rows but one, up to a row. -/
def Kn.wk (V : List (List Int)) (o k : Nat) : List (List Int) := (V.take k).eraseIdx o
theorem wk_skip {V : List (List Int)} {o : Nat} : Kn.wk V o (o + 1) = Kn.wk V o o := by
  unfold Kn.wk
  rw [List.eraseIdx_of_length_le (l := V.take o) (by simp; omega)]
  by_cases h : o < V.length
  · rw [List.take_succ_eq_append_getElem h, List.eraseIdx_append_of_length_le (by simp; omega)]
    have : o - (V.take o).length = 0 := by simp; omega
    rw [this]; simp
  · rw [List.take_of_length_le (by omega), List.take_of_length_le (by omega), List.eraseIdx_of_length_le (by omega)]
theorem wk_step {V : List (List Int)} {o k : Nat} (hk : k < V.length) (h : k ≠ o) : Kn.wk V o (k + 1) = Kn.wk V o k ++ [V.getD k []] := by
  unfold Kn.wk
  rw [List.take_succ_eq_append_getElem hk, List.getD_eq_getElem?_getD, List.getElem?_eq_getElem hk]
  rcases Nat.lt_or_ge o k with h1 | h1
  · rw [List.eraseIdx_append_of_lt_length (by simp; omega)]; rfl
  · rw [List.eraseIdx_of_length_le (by simp; omega), List.eraseIdx_of_length_le (by simp; omega)]; rfl

set_option maxRecDepth 100000 in
set_option maxHeartbeats 8000000 in
theorem sWithout_any (L : List Int) (V : List (List Int)) (o : Int) (aoL : Option Addr) (nL cL : Nat) (aoV : Option Addr) (nV cV : Nat) (w : World) (hf : Fld w aoL nL aoV nV L V) (hl : nL ≤ 100) (hv : nV ≤ 100) (hr : ∀ r ∈ V, r.length ≤ 100) :
    Calls Try.prog 59 #[.agg #[.slice aoL nL cL, .slice aoV nV cV], .int .i64 o] w fun e w' => (∃ vL vV, e = .returned (.tuple #[.agg #[vL, vV], .int .i64 (Kn.wocode L V o)]) ∧ w'.ownsRow w.heap.size 3 1 vL (Kn.woF L V o).1.length ((Kn.woF L V o).1.map (Value.int .i64)) ∧ OTab w' w.heap.size vV (Kn.woF L V o).2) ∧ Below w.heap.size w w' := by
  have HnL := Lib.hid hf.nl
  have HnV := Lib.hid hf.nv
  obtain ⟨i0, hi0, hz0, hz1, hz2⟩ := info_sl
  obtain ⟨C, hC⟩ : ∃ c, c = Kn.wocode L V o := ⟨_, rfl⟩
  rw [← hC]
  have HC := Lib.hid hC
  clear hC
  have hA := below_alloc2 w (.cells #[.slice aoL nL cL, .slice aoV nV cV] 57) (.cells #[.slice none 0 0, .slice none 0 0] 57)
  have rf := heap_alloc2_old w (.cells #[.slice aoL nL cL, .slice aoV nV cV] 57) (.cells #[.slice none 0 0, .slice none 0 0] 57)
  have rr := heap_alloc2_new w (.cells #[.slice aoL nL cL, .slice aoV nV cV] 57) (.cells #[.slice none 0 0, .slice none 0 0] 57)
  go_enter Try.func59, Try.ntmps59
  go_upto_region 1 with fail
  generalize (w.alloc (.cells #[.slice aoL nL cL, .slice aoV nV cV] 57)).alloc (.cells #[.slice none 0 0, .slice none 0 0] 57) = W0 at hA rf rr ⊢
  obtain ⟨G, hG⟩ : ∃ g, g = w.heap.size := ⟨_, rfl⟩
  rw [← hG] at rf rr ⊢
  have HG := Lib.hid hG
  clear hG
  replace hf := hf.below hA
  obtain ⟨⟨x0, x1⟩, -, -⟩ := row_fr rf
  go_wp2_with fail
  have hal := (Below.refl W0.heap.size W0).alloc (Nat.le_refl _) (.cells #[.int .i64 o] 3)
  have hI1 : Ints (W0.alloc (.cells #[.int .i64 o] 3)) (some ⟨W0.heap.size, 0, none⟩) [o] := ⟨fun _ => ⟨_, 0, rfl, by simp, fun i hi => by
    match i, hi with
    | 0, _ => exact cell_of_row _ _ 0 _ _ _ (heap_alloc_new W0 _)⟩⟩
  replace hf := hf.below hal
  replace rf := heap_keep hal rf
  replace rr := heap_keep hal rr
  replace hA := hA.trans (hal.mono hA.size)
  refine (sowned_any L V o _ _ _ _ _ _ _ _ _ hf hI1 hl hv hr).mono ?_
  rintro e w1 ⟨rfl, hbb⟩
  replace hf := hf.below hbb
  replace rf := heap_keep hbb rf
  replace rr := heap_keep hbb rr
  replace hA := hA.trans (hbb.mono hA.size)
  clear hbb hal hI1 x0 x1
  by_cases hz : Kn.ocode L V o = 0
  · obtain ⟨hok, k0, hko, hk0⟩ := owner_ok hz
    have hC2 : C = if V.length = 1 then 5 else 0 := by rw [HC.out]; unfold Kn.wocode; rw [if_neg (by simpa using hz)]
    have HC2 := Lib.hid hC2
    have hwo : Hid (Kn.woF L V o = if C = 0 then (L, V.eraseIdx o.toNat) else ([], [])) := Lib.hid (by unfold Kn.woF; rw [HC.out])
    subst hko
    rw [hz]
    clear hz hC2 HC
    obtain ⟨⟨x0, x1⟩, -, -⟩ := row_fr rf
    by_cases h1 : nV = 1
    · have hC5 : Hid (C = 5) := Lib.hid (by rw [HC2.out, if_pos (by rw [← HnV.out]; exact h1)])
      have q1 : ((nV : Int) == 1) = true := by simp; omega
      obtain ⟨⟨r0, r1⟩, s0, s1⟩ := row_fr rr
      clear h1
      go_wp2_with fail
      have hGw := HG.out
      rw [hC5.out]
      refine bodyPost_ret (results_cell_tmp rfl _ _ _ _ _ _ _ rfl (two_cells rr (.slice none 0 0) (.slice none 0 0)) Try.underlying57 rfl kinfoFd2) rfl ⟨⟨_, _, rfl, ?_, ?_⟩, below_setCell (below_setCell hA (by omega) _) (by omega) _⟩
      · rw [hwo.out, if_neg (by rw [hC5.out]; decide)]; exact ⟨rfl, .inl ⟨rfl, rfl⟩⟩
      · rw [hwo.out, if_neg (by rw [hC5.out]; decide)]; exact otab_none
    · have hC0 : Hid (C = 0) := Lib.hid (by rw [HC2.out, if_neg (by rw [← HnV.out]; exact h1)])
      have q1 : ((nV : Int) == 1) = false := by simp; omega
      have hv5 : nV ≤ 5 := by have := HnV.out; have := hok.v5; omega
      clear h1
      go_wp2_with fail
      refine (sCopy_any L V aoL nL cL aoV nV cV w1 hf hl hv hr).mono ?_
      rintro e w2 ⟨⟨vL, vV, rfl, oL, hT0⟩, hbb⟩
      have hs1 := hA.size
      have hG1 : G + 1 < w1.heap.size := heap_lt rr
      replace hf := hf.below hbb
      replace rf := heap_keep hbb rf
      replace rr := heap_keep hbb rr
      replace hA := hA.trans (hbb.mono hA.size)
      have hs12 := hbb.size
      clear hbb x0 x1
      obtain ⟨aL, cL2, rfl, -, -⟩ := own_ints oL HnL.out
      obtain ⟨rw0, hw1, hw2, hw3⟩ := hT0.rows
      rw [← HnV.out] at hw1 hw2
      obtain ⟨gw, cw, rfl, hgwb, hgwl, -, hgc⟩ := own_cells hw1 (by have := hok.v1; have := HnV.out; omega)
      go_upto_region 7 with fail
      have r7 := heap_alloc_new w2 (.cells #[.slice aL nL cL2, .slice (some ⟨gw, 0, none⟩) nV cw] 57)
      have hal := (Below.refl w2.heap.size w2).alloc (Nat.le_refl _) (.cells #[.slice aL nL cL2, .slice (some ⟨gw, 0, none⟩) nV cw] 57)
      replace hf := hf.below hal
      replace rf := heap_keep hal rf
      replace rr := heap_keep hal rr
      replace hA := hA.trans (hal.mono hA.size)
      replace oL := own_below oL hal
      have hw3' : ∀ q, q < V.length → ∃ ao cap, (w2.alloc (.cells #[.slice aL nL cL2, .slice (some ⟨gw, 0, none⟩) nV cw] 57)).cell? ⟨gw, q, none⟩ = some (.slice ao (V.getD q []).length cap) ∧ (V.getD q []).length ≤ cap ∧ (w2.alloc (.cells #[.slice aL nL cL2, .slice (some ⟨gw, 0, none⟩) nV cw] 57)).ownsRow w1.heap.size 3 1 (.slice ao (V.getD q []).length cap) (V.getD q []).length ((V.getD q []).map (Value.int .i64)) := fun q hq => by
        obtain ⟨ao, cap, a1, a2, a3⟩ := hw3 q hq
        exact ⟨ao, cap, keep_cell hal (hgc q _ a1), a2, own_below a3 hal⟩
      have hs5 : w2.heap.size < (w2.alloc (.cells #[.slice aL nL cL2, .slice (some ⟨gw, 0, none⟩) nV cw] 57)).heap.size := by simp
      clear hal hT0 hw1 hw2 hw3 hgc
      generalize w2.alloc (.cells #[.slice aL nL cL2, .slice (some ⟨gw, 0, none⟩) nV cw] 57) = W5 at r7 hf rf rr hA oL hw3' hs5 ⊢
      obtain ⟨G7, hg7⟩ : ∃ g, g = w2.heap.size := ⟨_, rfl⟩
      rw [← hg7] at r7 hgwl hs5 ⊢
      have HG7 := Lib.hid hg7
      clear hg7
      obtain ⟨⟨y0, y1⟩, -, -⟩ := row_fr r7
      go_upto_region 8 with fail
      clear y0 y1
      have r8 := heap_alloc_new W5 (.cells #[.slice aL nL cL2, .slice none 0 0] 57)
      have hal := (Below.refl W5.heap.size W5).alloc (Nat.le_refl _) (.cells #[.slice aL nL cL2, .slice none 0 0] 57)
      have hs8 : W5.heap.size < (W5.alloc (.cells #[.slice aL nL cL2, .slice none 0 0] 57)).heap.size := by simp
      generalize W5.alloc (.cells #[.slice aL nL cL2, .slice none 0 0] 57) = W8 at r8 hal hs8 ⊢
      obtain ⟨G8, hg8⟩ : ∃ g, g = W5.heap.size := ⟨_, rfl⟩
      rw [← hg8] at r8 hs8 ⊢
      have HG8 := Lib.hid hg8
      have hG8w : W5.heap.size ≤ G8 := by omega
      have hW58 : W5.heap.size ≤ W8.heap.size := by omega
      clear hg8
      obtain ⟨B0, hB0⟩ : ∃ b, b = w1.heap.size := ⟨_, rfl⟩
      rw [← hB0] at hw3' oL hs1 hG1 hgwb hs12
      have hB08 : B0 ≤ W8.heap.size := by have := HG7.out; omega
      have HB0 := Lib.hid hB0
      clear hB0
      have hG8 : G8 < W8.heap.size := by omega
      have hG78 : G7 < G8 := by omega
      have hgw8 : gw < G8 := by omega
      go_wp2_with fail
      go_loopw [9] (fun i wr => ∃ (k n' : Nat) (av : Option Addr) (cv : Nat), k ≤ nV ∧ n' ≤ k ∧ i = .int .i64 k ∧ Hid (n' = (Kn.wk V k0 k).length) ∧ wr.heap[G8]? = some (.cells #[.slice aL nL cL2, .slice av n' cv] 57 (0, 0)) ∧ Hid (OTab2 wr W8.heap.size B0 (.slice av n' cv) (Kn.wk V k0 k)) ∧ W8.heap.size ≤ wr.heap.size ∧ Below W5.heap.size W5 wr) (fun i _ => nV - (intOf i).toNat)
      case atStart => exact ⟨0, 0, none, 0, Nat.zero_le _, Nat.le_refl _, rfl, Lib.hid (by unfold Kn.wk; simp), r8, Lib.hid (by unfold Kn.wk; simp; exact otab2_none), Nat.le_refl _, hal⟩
      case round =>
        clear r8 hal
        obtain ⟨k, n', av, cv, hk, hnk, rfl, Hn', r8, hT, hsz, hb⟩ := hrel
        obtain ⟨⟨v0, v1⟩, -, -⟩ := row_fr (heap_keep hb rf)
        by_cases hlt : k < nV
        · have hkV : k < V.length := by have := HnV.out; omega
          have i1 : (k : Int) < (nV : Int) := by omega
          by_cases hkk : k = k0
          · have q2 : ((k : Int) != (k0 : Int)) = false := by simp; omega
            have hw9 : Kn.wk V k0 (k + 1) = Kn.wk V k0 k := by rw [hkk]; exact wk_skip
            have Hw9 := Lib.hid hw9
            clear hkk hw9
            go_wp2_with fail
            go_roundw
            case rel => exact ⟨k + 1, n', av, cv, by omega, by omega, by go_num, by rw [Hw9.out]; exact Hn', r8, by rw [Hw9.out]; exact hT, hsz, hb⟩
            case measure => simp [intOf]; omega
          · have q2 : ((k : Int) != (k0 : Int)) = true := by simp; omega
            have Hstep := Lib.hid (wk_step hkV hkk)
            obtain ⟨ar, cr, zr0, hcr, hor⟩ := hw3' k hkV
            replace hor := own_below hor hb
            have zr := keep_cell hb zr0
            clear zr0
            obtain ⟨⟨-, x1⟩, -, -⟩ := row_fr (heap_keep hb r7)
            obtain ⟨lk, hlk⟩ : ∃ l, l = V.getD k [] := ⟨_, rfl⟩
            rw [← hlk] at zr hcr hor Hstep
            clear hlk
            obtain ⟨m, hm⟩ : ∃ m, m = lk.length := ⟨_, rfl⟩
            have Hm := Lib.hid hm
            rw [← hm] at zr hcr hor
            clear hm
            obtain ⟨⟨y0, y1⟩, -, -⟩ := row_fr r8
            go_upto_region 12 with fail
            clear q2 hkk
            have hdr : Below wr.heap.size wr wr.drew := below_drewN (Below.refl wr.heap.size wr) 1
            refine wp_region_held_drew (S := fun w' => w'.cell? ⟨G7, 1, none⟩ = some (.slice (some ⟨gw, 0, none⟩) nV cw) ∧ w'.cell? ⟨gw, k, none⟩ = some (.slice ar m cr)) (by kernel_rfl) ⟨keep_cell hdr x1, keep_cell hdr zr⟩ (fun hHeld => ?_)
            refine wpAnyH_take (i := 0) (v := .pointer (some ⟨G8, 1, none⟩)) rfl (by kernel_rfl) (by kernel_rfl) (by kernel_rfl) (fun _ _ _ h => h) (Or.inl ⟨by rfl, fun w hSw => ?_⟩) (by assumption) ?_
            · obtain ⟨s0, s1⟩ := hSw
              (go_simp <;> omega)
            try simp only [List.getElem_toArray, List.getElem_cons_zero, Act.put, List.setIfInBounds_toArray, List.set_cons_zero, List.set_cons_succ]
            refine wpAnyH_take (i := 2) (v := .pointer (some ⟨G7, 1, none⟩)) rfl (by kernel_rfl) (by kernel_rfl) (by kernel_rfl) (fun _ _ _ h => h) (Or.inl ⟨by rfl, fun w hSw => ?_⟩) (by assumption) ?_
            · obtain ⟨s0, s1⟩ := hSw
              (go_simp <;> omega)
            try simp only [List.getElem_toArray, List.getElem_cons_zero, List.getElem_cons_succ, Act.put, List.setIfInBounds_toArray, List.set_cons_zero, List.set_cons_succ]
            refine wpAnyH_take (i := 3) (v := .slice (some ⟨gw, 0, none⟩) nV cw) rfl (by kernel_rfl) (by kernel_rfl) (by kernel_rfl) (fun _ _ _ h => h) (Or.inl ⟨by rfl, fun w hSw => ?_⟩) (by assumption) ?_
            · obtain ⟨s0, s1⟩ := hSw
              (go_simp <;> omega)
            try simp only [List.getElem_toArray, List.getElem_cons_zero, List.getElem_cons_succ, Act.put, List.setIfInBounds_toArray, List.set_cons_zero, List.set_cons_succ]
            refine wpAnyH_take (i := 4) (v := .int .i64 k) rfl (by kernel_rfl) (by kernel_rfl) (by kernel_rfl) (fun _ _ _ h => h) (Or.inl ⟨by rfl, fun w hSw => ?_⟩) (by assumption) ?_
            · obtain ⟨s0, s1⟩ := hSw
              (go_simp <;> omega)
            try simp only [List.getElem_toArray, List.getElem_cons_zero, List.getElem_cons_succ, Act.put, List.setIfInBounds_toArray, List.set_cons_zero, List.set_cons_succ]
            refine wpAnyH_take (i := 5) (v := .pointer (some ⟨gw, k, none⟩)) rfl (by kernel_rfl) (by kernel_rfl) (by kernel_rfl) (fun _ _ _ h => h) (Or.inl ⟨by rfl, fun w hSw => ?_⟩) (by assumption) ?_
            · obtain ⟨s0, s1⟩ := hSw
              (go_simp <;> omega)
            try simp only [List.getElem_toArray, List.getElem_cons_zero, List.getElem_cons_succ, Act.put, List.setIfInBounds_toArray, List.set_cons_zero, List.set_cons_succ]
            refine wpAnyH_take (i := 6) (v := .slice ar m cr) rfl (by kernel_rfl) (by kernel_rfl) (by kernel_rfl) (fun _ _ _ h => h) (Or.inl ⟨by rfl, fun w hSw => ?_⟩) (by assumption) ?_
            · obtain ⟨s0, s1⟩ := hSw
              (go_simp <;> omega)
            try simp only [List.getElem_toArray, List.getElem_cons_zero, List.getElem_cons_succ, Act.put, List.setIfInBounds_toArray, List.set_cons_zero, List.set_cons_succ]
            refine wpAnyH_ready (rs := [1, 7]) (by kernel_rfl) (by simp) ?_
            refine AllReadyH.cons rfl (fun K hK => ?_) (AllReadyH.cons rfl (fun K hK => ?_) AllReadyH.nil)
            · have y1d := keep_cell hdr y1
              go_simp
              (try dsimp only)
              refine hK.out _ _ ⟨keep_cell hdr x1, keep_cell hdr zr⟩ (fun hHeld => ?_)
              clear hK K
              try simp only [List.getElem_toArray, List.getElem_cons_zero, List.getElem_cons_succ, Act.put, List.setIfInBounds_toArray, List.set_cons_zero, List.set_cons_succ]
              refine wpAnyH_ready (rs := [7]) (by kernel_rfl) (by simp) ?_
              refine AllReadyH.cons rfl (fun K hK => ?_) AllReadyH.nil
              go_simp
              have hdw := hdr.alloc hdr.size (.cells #[.slice ar m cr] 39)
              (try dsimp only)
              refine hK.out _ _ ⟨keep_cell hdw x1, keep_cell hdw zr⟩ (fun hHeld => ?_)
              clear hK K
              try simp only [List.getElem_toArray, List.getElem_cons_zero, List.getElem_cons_succ, Act.put, List.setIfInBounds_toArray, List.set_cons_zero, List.set_cons_succ]
              have hb2 := (Below.refl wr.heap.size wr).alloc (Nat.le_refl _) (.cells #[.slice ar m cr] 39)
              obtain ⟨rs, t1, t2, t3⟩ := hT.out.rows
              have t1w := own_below t1 hdw
              have t1n := t1w
              rw [← Hn'.out] at t1n
              have t3w : ∀ q (_ : q < (Kn.wk V k0 k).length), ∃ ao cap, rs[q]? = some (.slice ao ((Kn.wk V k0 k).getD q []).length cap) ∧ ((Kn.wk V k0 k).getD q []).length ≤ cap ∧ (wr.drew.alloc (.cells #[.slice ar m cr] 39)).ownsRow B0 3 1 (.slice ao ((Kn.wk V k0 k).getD q []).length cap) ((Kn.wk V k0 k).getD q []).length (((Kn.wk V k0 k).getD q []).map (Value.int .i64)) := fun q hq => by
                obtain ⟨ao, cap, a1, a2, a3⟩ := t3 q hq
                exact ⟨ao, cap, a1, a2, own_below a3 hdw⟩
              refine wpAnyH_ready (rs := [8]) (by kernel_rfl) (by simp) ?_
              refine AllReadyH.cons rfl (fun K hK => ?_) AllReadyH.nil
              rw [if_pos (by rfl)]
              refine wp_append_own _ _ _ _ (by rfl) W8.heap.size 39 i0 (.slice none 0 0) 1 24 Try.underlying55 hi0 hz0 hz1 hz2 rfl (by decide) _ n' rs (by rfl) t1n ⟨wr.heap.size, 0, none⟩ 1 1 [.slice ar m cr] (by rfl) rfl (World.news_of_block (cs := #[.slice ar m cr]) (t := 39) (fr := (0, 0)) (heap_alloc_new wr.drew _)) (by simp [Value.oneCell']) (by unfold maxLen; omega) (by omega) (Nat.le_trans hsz hdw.size) ?_
              intro v1 z6 ho1 hg1 _
              obtain ⟨gv, c9, rfl, -, -, -, -⟩ := own_cells ho1 (by omega)
              have hT2 : OTab2 z6 W8.heap.size B0 (.slice (some ⟨gv, 0, none⟩) (n' + 1) c9) (Kn.wk V k0 k ++ [lk]) := otab2_push (r := .slice ar m cr) (rs := rs) (V := Kn.wk V k0 k) t1w t2 t3w (by rw [Hm.out]) (by rw [← Hm.out]; exact hcr) (by rw [← Hm.out]; exact own_below hor hdw) hg1 (by rw [← Hn'.out]; exact ho1)
              have hb6 : Below W8.heap.size wr z6 := (hdw.mono hsz).grown hg1 (Nat.le_trans hsz hdw.size) (fun q hq => (t1.lt q hq).1)
              have r8z := (hb6.block G8 hG8).trans r8
              obtain ⟨⟨c0, c1⟩, g0, g1⟩ := row_fr r8z
              have r8n := snd_cell r8z (.slice (some ⟨gv, 0, none⟩) (n' + 1) c9)
              have hTn := hT2.set (o := 1) (u := .slice (some ⟨gv, 0, none⟩) (n' + 1) c9) r8z
              have hBz := below_setCell (g := G8) (o := 1) (hb.trans (hb6.mono hW58)) (by omega) (.slice (some ⟨gv, 0, none⟩) (n' + 1) c9)
              have x6 := (hb6.cell (p := ⟨G7, 1, none⟩) (show G7 < W8.heap.size by omega)).trans x1
              have z6r := (hb6.cell (p := ⟨gw, k, none⟩) (show gw < W8.heap.size by omega)).trans zr
              (try dsimp only)
              refine hK.out _ _ ⟨x6, z6r⟩ (fun hHeld => ?_)
              clear hK K
              try simp only [List.getElem_toArray, List.getElem_cons_zero, List.getElem_cons_succ, Act.put, List.setIfInBounds_toArray, List.set_cons_zero, List.set_cons_succ]
              have HZ6 := Lib.hid hb6.size
              refine wpAnyH_take (i := 9) (v := .pointer (some ⟨G8, 1, none⟩)) rfl (by kernel_rfl) (by kernel_rfl) (by kernel_rfl) (fun _ _ _ h => h) (Or.inl ⟨by rfl, fun w hSw => ?_⟩) (by assumption) ?_
              · obtain ⟨s0, s1⟩ := hSw
                (go_simp <;> omega)
              try simp only [List.getElem_toArray, List.getElem_cons_zero, List.getElem_cons_succ, Act.put, List.setIfInBounds_toArray, List.set_cons_zero, List.set_cons_succ]
              refine wpAnyH_ready (rs := [10]) (by kernel_rfl) (by simp) ?_
              refine AllReadyH.cons rfl (fun K hK => ?_) AllReadyH.nil
              go_simp
              (try dsimp only)
              refine hK.out _ _ ⟨cell_one_at _ (show G7 ≠ G8 by omega) x6, cell_one_at _ (show gw ≠ G8 by omega) z6r⟩ (fun hHeld => ?_)
              clear hK K
              try simp only [List.getElem_toArray, List.getElem_cons_zero, List.getElem_cons_succ, Act.put, List.setIfInBounds_toArray, List.set_cons_zero, List.set_cons_succ]
              refine wpAnyH_done (by kernel_rfl) ?_ _
              go_wp2_with fail
              go_roundw
              case rel => exact ⟨k + 1, n' + 1, some ⟨gv, 0, none⟩, c9, by omega, by omega, by go_num, Lib.hid (by rw [Hstep.out, List.length_append, ← Hn'.out]; rfl), r8n, Lib.hid (by rw [Hstep.out]; exact hTn), by have := HZ6.out; simp [World.setCell]; omega, hBz⟩
              case measure => simp [intOf]; omega
            · go_simp
              have hdw := hdr.alloc hdr.size (.cells #[.slice ar m cr] 39)
              (try dsimp only)
              refine hK.out _ _ ⟨keep_cell hdw x1, keep_cell hdw zr⟩ (fun hHeld => ?_)
              clear hK K
              try simp only [List.getElem_toArray, List.getElem_cons_zero, List.getElem_cons_succ, Act.put, List.setIfInBounds_toArray, List.set_cons_zero, List.set_cons_succ]
              have y1d := keep_cell ((Below.refl wr.heap.size wr).alloc (Nat.le_refl _) (.cells #[.slice ar m cr] 39)) y1
              refine wpAnyH_ready (rs := [1]) (by kernel_rfl) (by simp) ?_
              refine AllReadyH.cons rfl (fun K hK => ?_) AllReadyH.nil
              go_simp
              (try dsimp only)
              refine hK.out _ _ ⟨keep_cell hdw x1, keep_cell hdw zr⟩ (fun hHeld => ?_)
              clear hK K
              try simp only [List.getElem_toArray, List.getElem_cons_zero, List.getElem_cons_succ, Act.put, List.setIfInBounds_toArray, List.set_cons_zero, List.set_cons_succ]
              have hb2 := (Below.refl wr.heap.size wr).alloc (Nat.le_refl _) (.cells #[.slice ar m cr] 39)
              obtain ⟨rs, t1, t2, t3⟩ := hT.out.rows
              have t1w := own_below t1 hdw
              have t1n := t1w
              rw [← Hn'.out] at t1n
              have t3w : ∀ q (_ : q < (Kn.wk V k0 k).length), ∃ ao cap, rs[q]? = some (.slice ao ((Kn.wk V k0 k).getD q []).length cap) ∧ ((Kn.wk V k0 k).getD q []).length ≤ cap ∧ (wr.drew.alloc (.cells #[.slice ar m cr] 39)).ownsRow B0 3 1 (.slice ao ((Kn.wk V k0 k).getD q []).length cap) ((Kn.wk V k0 k).getD q []).length (((Kn.wk V k0 k).getD q []).map (Value.int .i64)) := fun q hq => by
                obtain ⟨ao, cap, a1, a2, a3⟩ := t3 q hq
                exact ⟨ao, cap, a1, a2, own_below a3 hdw⟩
              refine wpAnyH_ready (rs := [8]) (by kernel_rfl) (by simp) ?_
              refine AllReadyH.cons rfl (fun K hK => ?_) AllReadyH.nil
              rw [if_pos (by rfl)]
              refine wp_append_own _ _ _ _ (by rfl) W8.heap.size 39 i0 (.slice none 0 0) 1 24 Try.underlying55 hi0 hz0 hz1 hz2 rfl (by decide) _ n' rs (by rfl) t1n ⟨wr.heap.size, 0, none⟩ 1 1 [.slice ar m cr] (by rfl) rfl (World.news_of_block (cs := #[.slice ar m cr]) (t := 39) (fr := (0, 0)) (heap_alloc_new wr.drew _)) (by simp [Value.oneCell']) (by unfold maxLen; omega) (by omega) (Nat.le_trans hsz hdw.size) ?_
              intro v1 z6 ho1 hg1 _
              obtain ⟨gv, c9, rfl, -, -, -, -⟩ := own_cells ho1 (by omega)
              have hT2 : OTab2 z6 W8.heap.size B0 (.slice (some ⟨gv, 0, none⟩) (n' + 1) c9) (Kn.wk V k0 k ++ [lk]) := otab2_push (r := .slice ar m cr) (rs := rs) (V := Kn.wk V k0 k) t1w t2 t3w (by rw [Hm.out]) (by rw [← Hm.out]; exact hcr) (by rw [← Hm.out]; exact own_below hor hdw) hg1 (by rw [← Hn'.out]; exact ho1)
              have hb6 : Below W8.heap.size wr z6 := (hdw.mono hsz).grown hg1 (Nat.le_trans hsz hdw.size) (fun q hq => (t1.lt q hq).1)
              have r8z := (hb6.block G8 hG8).trans r8
              obtain ⟨⟨c0, c1⟩, g0, g1⟩ := row_fr r8z
              have r8n := snd_cell r8z (.slice (some ⟨gv, 0, none⟩) (n' + 1) c9)
              have hTn := hT2.set (o := 1) (u := .slice (some ⟨gv, 0, none⟩) (n' + 1) c9) r8z
              have hBz := below_setCell (g := G8) (o := 1) (hb.trans (hb6.mono hW58)) (by omega) (.slice (some ⟨gv, 0, none⟩) (n' + 1) c9)
              have x6 := (hb6.cell (p := ⟨G7, 1, none⟩) (show G7 < W8.heap.size by omega)).trans x1
              have z6r := (hb6.cell (p := ⟨gw, k, none⟩) (show gw < W8.heap.size by omega)).trans zr
              (try dsimp only)
              refine hK.out _ _ ⟨x6, z6r⟩ (fun hHeld => ?_)
              clear hK K
              try simp only [List.getElem_toArray, List.getElem_cons_zero, List.getElem_cons_succ, Act.put, List.setIfInBounds_toArray, List.set_cons_zero, List.set_cons_succ]
              have HZ6 := Lib.hid hb6.size
              refine wpAnyH_take (i := 9) (v := .pointer (some ⟨G8, 1, none⟩)) rfl (by kernel_rfl) (by kernel_rfl) (by kernel_rfl) (fun _ _ _ h => h) (Or.inl ⟨by rfl, fun w hSw => ?_⟩) (by assumption) ?_
              · obtain ⟨s0, s1⟩ := hSw
                (go_simp <;> omega)
              try simp only [List.getElem_toArray, List.getElem_cons_zero, List.getElem_cons_succ, Act.put, List.setIfInBounds_toArray, List.set_cons_zero, List.set_cons_succ]
              refine wpAnyH_ready (rs := [10]) (by kernel_rfl) (by simp) ?_
              refine AllReadyH.cons rfl (fun K hK => ?_) AllReadyH.nil
              go_simp
              (try dsimp only)
              refine hK.out _ _ ⟨cell_one_at _ (show G7 ≠ G8 by omega) x6, cell_one_at _ (show gw ≠ G8 by omega) z6r⟩ (fun hHeld => ?_)
              clear hK K
              try simp only [List.getElem_toArray, List.getElem_cons_zero, List.getElem_cons_succ, Act.put, List.setIfInBounds_toArray, List.set_cons_zero, List.set_cons_succ]
              refine wpAnyH_done (by kernel_rfl) ?_ _
              go_wp2_with fail
              go_roundw
              case rel => exact ⟨k + 1, n' + 1, some ⟨gv, 0, none⟩, c9, by omega, by omega, by go_num, Lib.hid (by rw [Hstep.out, List.length_append, ← Hn'.out]; rfl), r8n, Lib.hid (by rw [Hstep.out]; exact hTn), by have := HZ6.out; simp [World.setCell]; omega, hBz⟩
              case measure => simp [intOf]; omega
        · have hk2 : k = nV := by omega
          have hTF := hT.out
          rw [show Kn.wk V k0 k = V.eraseIdx k0 by unfold Kn.wk; rw [hk2, HnV.out, List.take_length]] at hTF
          have Hk := Lib.hid hk2
          have hAr := hA.trans (hb.mono hA.size)
          have rrr := heap_keep hb rr
          have oLr := own_below oL hb
          clear hk2 hT
          obtain ⟨⟨y0, y1⟩, -, -⟩ := row_fr r8
          obtain ⟨⟨r0, r1⟩, s0, s1⟩ := row_fr rrr
          go_wp2_with fail
          have hGw := HG.out
          rw [hC0.out]
          refine bodyPost_ret (results_cell_tmp rfl _ _ _ _ _ _ _ rfl (two_cells rrr (.slice aL nL cL2) (.slice av n' cv)) Try.underlying57 rfl kinfoFd2) rfl ⟨⟨_, _, rfl, ?_, ?_⟩, below_setCell (below_setCell hAr (by omega) _) (by omega) _⟩
          · rw [hwo.out, if_pos hC0.out]
            have h8 := own_setT (o := 1) (u := .slice av n' cv) (own_setT (o := 0) (u := .slice aL nL cL2) oLr rrr (by decide)) (fst_cell rrr (.slice aL nL cL2)) (by decide)
            rw [HnL.out] at h8 ⊢
            exact own_mono h8 hs1
          · rw [hwo.out, if_pos hC0.out]
            exact (((hTF.one hB08).setT (o := 0) (u := .slice aL nL cL2) rrr).setT (o := 1) (u := .slice av n' cv) (fst_cell rrr (.slice aL nL cL2))).mono hs1
  · have hne : (Kn.ocode L V o != 0) = true := by simp [hz]
    have hC1 : C = Kn.ocode L V o := by rw [HC.out]; unfold Kn.wocode; rw [if_pos hz]
    have HC1 := Lib.hid hC1
    have hwo : Hid (Kn.woF L V o = ([], [])) := Lib.hid (by unfold Kn.woF; rw [← HC.out, if_neg (by rw [hC1]; exact hz)])
    generalize Kn.ocode L V o = D at hz hne HC1 ⊢
    clear hC1
    obtain ⟨⟨r0, r1⟩, s0, s1⟩ := row_fr rr
    go_wp2_with fail
    have hGw := HG.out
    rw [HC1.out]
    refine bodyPost_ret (results_cell_tmp rfl _ _ _ _ _ _ _ rfl (two_cells rr (.slice none 0 0) (.slice none 0 0)) Try.underlying57 rfl kinfoFd2) rfl ⟨⟨_, _, rfl, ?_, ?_⟩, below_setCell (below_setCell hA (by omega) _) (by omega) _⟩
    · rw [hwo.out]; exact ⟨rfl, .inl ⟨rfl, rfl⟩⟩
    · rw [hwo.out]; exact otab_none
end Go.Proofs.Ytemlfklipkpacaa
