import Derived.Test.YtmdkdkiejcjmaaaXb
import Derived.Test.YtmdkdkiejcjmaaaTl
/- Package term: With. -/
namespace Go.Proofs.Ytmdkdkiejcjmaaa
open Go.RowKit Go.Shelf

namespace Tm
def wcode (f : Int) (F : List Int) (S : List (Int × Int)) (x y : Int) : Int := if vcode f F S ≠ 0 then vcode f F S else if 4 ≤ S.length then 3 else if spans 0 [(x, y)] then (if shares x y S then 6 else 0) else 1
/-- What With hands back: nothing, or the calendar with the span among its spans, by their beginnings. -/
def WR (f : Int) (F : List Int) (S : List (Int × Int)) (x y f2 : Int) (F2 : List Int) (L : List (Int × Int)) : Prop := (wcode f F S x y ≠ 0 ∧ f2 = 0 ∧ F2 = [] ∧ L = []) ∨ (wcode f F S x y = 0 ∧ f2 = f ∧ F2 = F ∧ L.Perm (S ++ [(x, y)]) ∧ L.Pairwise (fun a b => a.1 ≤ b.1))
end Tm
theorem own_nil (w : World) (base : Nat) (e : TypeId) (size : Nat) : w.ownsRow base e size (.slice none 0 0) 0 [] := ⟨by simp, .inl ⟨rfl, rfl⟩⟩

set_option maxRecDepth 100000 in
set_option maxHeartbeats 4000000 in
theorem With_any (f : Int) (F : List Int) (S : List (Int × Int)) (aoF : Option Addr) (nF cF : Nat) (aoS : Option Addr) (nS cS : Nat) (x y : Int) (w : World) (hcl : Cl w aoF nF aoS nS F S) (h9 : nF ≤ 100000) (h8 : nS ≤ 100000) :
    Calls Try.prog 52 #[.agg #[.int .i64 f, .slice aoF nF cF, .slice aoS nS cS], .agg #[.int .i64 x, .int .i64 y]] w fun e w' => (∃ (f2 : Int) (vF vS : Value) (F2 : List Int) (L : List (Int × Int)), e = .returned (.tuple #[.agg #[.int .i64 f2, vF, vS], .int .i64 (Tm.wcode f F S x y)]) ∧ Tm.WR f F S x y f2 F2 L ∧ w'.ownsRow w.heap.size 3 1 vF F2.length (F2.map (Value.int .i64)) ∧ w'.ownsRow w.heap.size 64 2 vS L.length (flat2 L)) ∧ Below w.heap.size w w' := by
  obtain ⟨R, hR⟩ : ∃ c, c = Tm.wcode f F S x y := ⟨_, rfl⟩
  rw [← hR]
  have HR := Lib.hid hR
  clear hR
  have hA := below_alloc3 w (.cells #[.int .i64 f, .slice aoF nF cF, .slice aoS nS cS] 25) (.cells #[.int .i64 x, .int .i64 y] 64) (.cells #[.int .i64 0, .slice none 0 0, .slice none 0 0] 25)
  obtain ⟨rc, rs, rr⟩ := heap3 w (.cells #[.int .i64 f, .slice aoF nF cF, .slice aoS nS cS] 25) (.cells #[.int .i64 x, .int .i64 y] 64) (.cells #[.int .i64 0, .slice none 0 0, .slice none 0 0] 25)
  have hsz : (((w.alloc (.cells #[.int .i64 f, .slice aoF nF cF, .slice aoS nS cS] 25)).alloc (.cells #[.int .i64 x, .int .i64 y] 64)).alloc (.cells #[.int .i64 0, .slice none 0 0, .slice none 0 0] 25)).heap.size = w.heap.size + 3 := by simp
  go_enter Try.func52, Try.ntmps52
  go_upto_region 1 with fail
  generalize ((w.alloc (.cells #[.int .i64 f, .slice aoF nF cF, .slice aoS nS cS] 25)).alloc (.cells #[.int .i64 x, .int .i64 y] 64)).alloc (.cells #[.int .i64 0, .slice none 0 0, .slice none 0 0] 25) = W0 at hA rc rs rr hsz ⊢
  obtain ⟨G, hG⟩ : ∃ g, g = w.heap.size := ⟨_, rfl⟩
  rw [← hG] at rc rs rr hsz ⊢
  have HG := Lib.hid hG
  clear hG
  replace hcl := hcl.below hA
  have c0 := cell_of_row W0 G 0 _ _ _ rc
  have c1 := cell_of_row W0 G 1 _ _ _ rc
  have c2 := cell_of_row W0 G 2 _ _ _ rc
  have d0 := cell_of_row W0 (G + 1) 0 _ _ _ rs
  have d1 := cell_of_row W0 (G + 1) 1 _ _ _ rs
  simp at c0 c1 c2 d0 d1
  clear rc rs hsz
  obtain ⟨C, hC⟩ : ∃ c, c = Tm.vcode f F S := ⟨_, rfl⟩
  have HC := Lib.hid hC
  have hX := Validate_any f F S aoF nF cF aoS nS cS W0 hcl h9 h8
  rw [← hC] at hX
  clear hC
  go_wp2_with fail
  refine hX.mono ?_
  clear hX
  rintro e w1 ⟨rfl, hbb⟩
  replace hcl := hcl.below hbb
  replace c0 := keep_cell hbb c0
  replace c1 := keep_cell hbb c1
  replace c2 := keep_cell hbb c2
  replace d0 := keep_cell hbb d0
  replace d1 := keep_cell hbb d1
  replace rr := heap_keep hbb rr
  replace hA := hA.trans (hbb.mono hA.size)
  clear hbb
  by_cases hz : C = 0
  · have hz2 := Lib.hid (HC.out.symm.trans hz)
    have hn4 : nS ≤ 4 := by have := (Tm.vcode_ok hz2.out).2.2; rw [hcl.ns]; exact this
    have HNS := Lib.hid hcl.ns
    subst hz
    by_cases h4 : nS = 4
    · have i1 : ((nS : Int) == 4) = true := by simp; omega
      have hr : Hid (R = 3) := Lib.hid (by rw [HR.out]; unfold Tm.wcode; rw [if_neg (by simpa using hz2.out), if_pos (by rw [← HNS.out]; omega)])
      clear h4
      have hq : Hid (Tm.WR f F S x y 0 [] []) := Lib.hid (.inl ⟨by rw [← HR.out, hr.out]; decide, rfl, rfl, rfl⟩)
      have hGw : w.heap.size ≤ G + 1 + 1 := by have := HG.out; omega
      obtain ⟨⟨s0, s1, s2⟩, t0, t1, t2⟩ := row3 rr
      go_wp2_with fail
      exact bodyPost_ret (results_cell_tmp rfl _ _ _ _ _ _ _ rfl (three_cells rr _ _ _) Try.underlying25 rfl infoCal3) rfl ⟨⟨0, _, _, [], [], by rw [hr.out]; rfl, hq.out, own_nil _ _ _ _, own_nil _ _ _ _⟩, below_setCell (below_setCell (below_setCell hA hGw _) hGw _) hGw _⟩
    · have i1 : ((nS : Int) == 4) = false := by simp; omega
      have hr1 : Hid (R = if Tm.spans 0 [(x, y)] then (if Tm.shares x y S then 6 else 0) else 1) := Lib.hid (by rw [HR.out]; unfold Tm.wcode; rw [if_neg (by simpa using hz2.out), if_neg (by rw [← HNS.out]; omega)])
      clear h4 HC
      go_wp2_with fail
      have hal := (Below.refl w1.heap.size w1).alloc (Nat.le_refl _) (.cells #[.int .i64 x, .int .i64 y] 64)
      have hp1 : Pts (w1.alloc (.cells #[.int .i64 x, .int .i64 y] 64)) (some ⟨w1.heap.size, 0, none⟩) [(x, y)] := pts_lit [(x, y)] (heap_alloc_new w1 _) rfl
      refine (areSpans_any [(x, y)] _ 1 1 _ hp1 rfl (by omega)).mono ?_
      rintro e w2 ⟨rfl, hbb⟩
      replace hcl := hcl.below hal
      replace c0 := keep_cell hal c0
      replace c1 := keep_cell hal c1
      replace c2 := keep_cell hal c2
      replace d0 := keep_cell hal d0
      replace d1 := keep_cell hal d1
      replace rr := heap_keep hal rr
      replace hA := hA.trans (hal.mono hA.size)
      replace hcl := hcl.below hbb
      replace c0 := keep_cell hbb c0
      replace c1 := keep_cell hbb c1
      replace c2 := keep_cell hbb c2
      replace d0 := keep_cell hbb d0
      replace d1 := keep_cell hbb d1
      replace rr := heap_keep hbb rr
      replace hA := hA.trans (hbb.mono hA.size)
      clear hal hbb hp1
      obtain ⟨bv, hbv⟩ : ∃ b, Tm.spans 0 [(x, y)] = b := ⟨_, rfl⟩
      rw [hbv] at hr1 ⊢
      have HBV := Lib.hid hbv
      clear hbv
      cases bv with
      | false =>
        have hr : Hid (R = 1) := hr1
        have hq : Hid (Tm.WR f F S x y 0 [] []) := Lib.hid (.inl ⟨by rw [← HR.out, hr.out]; decide, rfl, rfl, rfl⟩)
        have hGw : w.heap.size ≤ G + 1 + 1 := by have := HG.out; omega
        obtain ⟨⟨s0, s1, s2⟩, t0, t1, t2⟩ := row3 rr
        go_wp2_with fail
        exact bodyPost_ret (results_cell_tmp rfl _ _ _ _ _ _ _ rfl (three_cells rr _ _ _) Try.underlying25 rfl infoCal3) rfl ⟨⟨0, _, _, [], [], by rw [hr.out]; rfl, hq.out, own_nil _ _ _ _, own_nil _ _ _ _⟩, below_setCell (below_setCell (below_setCell hA hGw _) hGw _) hGw _⟩
      | true =>
        have hlt := heap_lt rr
        have hX := containsShare_any x y (G + 1) S aoS nS cS w2 (by omega) d0 d1 hcl.hS hcl.ns (by omega)
        obtain ⟨bw, hbw⟩ : ∃ b, Tm.shares x y S = b := ⟨_, rfl⟩
        rw [hbw] at hr1 hX
        clear hbw
        go_wp2_with fail
        refine hX.mono ?_
        clear hX
        rintro e w3 ⟨rfl, hbb⟩
        replace hcl := hcl.below hbb
        replace c0 := keep_cell hbb c0
        replace c1 := keep_cell hbb c1
        replace c2 := keep_cell hbb c2
        replace d0 := keep_cell hbb d0
        replace d1 := keep_cell hbb d1
        replace rr := heap_keep hbb rr
        replace hA := hA.trans (hbb.mono hA.size)
        clear hbb hlt
        cases bw with
        | true =>
          have hr : Hid (R = 6) := hr1
          have hq : Hid (Tm.WR f F S x y 0 [] []) := Lib.hid (.inl ⟨by rw [← HR.out, hr.out]; decide, rfl, rfl, rfl⟩)
          have hGw : w.heap.size ≤ G + 1 + 1 := by have := HG.out; omega
          obtain ⟨⟨s0, s1, s2⟩, t0, t1, t2⟩ := row3 rr
          go_wp2_with fail
          exact bodyPost_ret (results_cell_tmp rfl _ _ _ _ _ _ _ rfl (three_cells rr _ _ _) Try.underlying25 rfl infoCal3) rfl ⟨⟨0, _, _, [], [], by rw [hr.out]; rfl, hq.out, own_nil _ _ _ _, own_nil _ _ _ _⟩, below_setCell (below_setCell (below_setCell hA hGw _) hGw _) hGw _⟩
        | false =>
          have hr : Hid (R = 0) := hr1
          have hw0 : Hid (Tm.wcode f F S x y = 0) := Lib.hid (HR.out.symm.trans hr.out)
          have hGlt : G + 1 + 1 < w3.heap.size := heap_lt rr
          go_wp2_with fail
          refine (with_any f F S aoF nF cF aoS nS cS x y w3 hcl h9 hn4).mono ?_
          rintro e w4 ⟨⟨vF, vS, L, rfl, hp, hs, ho1, ho2⟩, hbb⟩
          have hszw := hA.size
          replace hcl := hcl.below hbb
          replace c0 := keep_cell hbb c0
          replace c1 := keep_cell hbb c1
          replace c2 := keep_cell hbb c2
          replace d0 := keep_cell hbb d0
          replace d1 := keep_cell hbb d1
          replace rr := heap_keep hbb rr
          replace hA := hA.trans (hbb.mono hA.size)
          clear hbb
          have hL : nS + 1 = L.length := by rw [hp.length_eq, List.length_append, ← HNS.out]; rfl
          have hk1 := own_ints ho1 hcl.nf
          obtain ⟨ao4, cap4, rfl, -, -⟩ := hk1
          have hk2 := own_pts2 ho2 hL
          obtain ⟨ao5, cap5, rfl, -, -⟩ := hk2
          have hq : Hid (Tm.WR f F S x y f F L) := Lib.hid (.inr ⟨hw0.out, rfl, rfl, hp, hs⟩)
          have hGw : w.heap.size ≤ G + 1 + 1 := by have := HG.out; omega
          have hGb := hGlt
          have o1 := own_mono (base' := w.heap.size) (own_set_other (g := G + 1 + 1) (o := 2) (u := .slice ao5 (nS + 1) cap5) (own_set_other (g := G + 1 + 1) (o := 1) (u := .slice ao4 nF cap4) (own_set_other (g := G + 1 + 1) (o := 0) (u := .int .i64 f) ho1 hGb) hGb) hGb) hszw
          have o2 := own_mono (base' := w.heap.size) (own_set_other (g := G + 1 + 1) (o := 2) (u := .slice ao5 (nS + 1) cap5) (own_set_other (g := G + 1 + 1) (o := 1) (u := .slice ao4 nF cap4) (own_set_other (g := G + 1 + 1) (o := 0) (u := .int .i64 f) ho2 hGb) hGb) hGb) hszw
          have O1 := Lib.hid o1
          have O2 := Lib.hid o2
          have HL := Lib.hid hL
          have HF := Lib.hid hcl.nf
          obtain ⟨⟨s0, s1, s2⟩, t0, t1, t2⟩ := row3 rr
          clear o1 o2 ho1 ho2 hp hs hL hGb hszw hGlt
          go_wp2_with fail
          exact bodyPost_ret (results_cell_tmp rfl _ _ _ _ _ _ _ rfl (three_cells rr _ _ _) Try.underlying25 rfl infoCal3) rfl ⟨⟨f, _, _, F, L, by rw [hr.out]; rfl, hq.out, by rw [← HF.out]; exact O1.out, by rw [← HL.out]; exact O2.out⟩, below_setCell (below_setCell (below_setCell hA hGw _) hGw _) hGw _⟩
  · have hne : (C != 0) = true := by simp [hz]
    have hr : Hid (R = C) := Lib.hid (by rw [HR.out, HC.out]; unfold Tm.wcode; rw [if_pos (by rw [← HC.out]; exact hz)])
    have hq : Hid (Tm.WR f F S x y 0 [] []) := Lib.hid (.inl ⟨by rw [← HR.out, hr.out]; exact hz, rfl, rfl, rfl⟩)
    have hGw : w.heap.size ≤ G + 1 + 1 := by have := HG.out; omega
    obtain ⟨⟨s0, s1, s2⟩, t0, t1, t2⟩ := row3 rr
    go_wp2_with fail
    exact bodyPost_ret (results_cell_tmp rfl _ _ _ _ _ _ _ rfl (three_cells rr _ _ _) Try.underlying25 rfl infoCal3) rfl ⟨⟨0, _, _, [], [], by rw [hr.out]; rfl, hq.out, own_nil _ _ _ _, own_nil _ _ _ _⟩, below_setCell (below_setCell (below_setCell hA hGw _) hGw _) hGw _⟩
end Go.Proofs.Ytmdkdkiejcjmaaa
