import Derived.Test.YtmdkdkiejcjmaaaXa
import Derived.Test.YtmdkdkiejcjmaaaXc
import Derived.Test.YtmdkdkiejcjmaaaSl
/- Package term: With. -/
namespace Go.Proofs.Ytmdkdkiejcjmaaa
open Go.RowKit Go.Shelf

namespace Tm
def shares (x y : Int) (l : List (Int × Int)) : Bool := l.any fun t => decide (x ≤ t.2) && decide (t.1 ≤ y)
end Tm

set_option maxRecDepth 100000 in
set_option maxHeartbeats 2000000 in
theorem share1_any (x y : Int) (B : Nat) (a b : Int) (w : World) (hc : w.cell? ⟨B, 0, none⟩ = some (.int .i64 x)) (hc2 : w.cell? ⟨B, 1, none⟩ = some (.int .i64 y)) :
    Calls Try.prog 89 #[.agg #[.int .i64 a, .int .i64 b], .pointer (some ⟨B, 0, none⟩)] w fun e w' => e = .returned (.bool (decide (x ≤ b) && decide (a ≤ y))) ∧ Below w.heap.size w w' := by
  have hA := (Below.refl _ w).alloc (Nat.le_refl _) (.cells #[.int .i64 a, .int .i64 b] 64)
  have ra := heap_alloc_new w (.cells #[.int .i64 a, .int .i64 b] 64)
  replace hc := keep_cell hA hc
  replace hc2 := keep_cell hA hc2
  go_enter Try.func89, Try.ntmps89
  go_upto_region 1 with fail
  generalize w.alloc (.cells #[.int .i64 a, .int .i64 b] 64) = W0 at hA ra hc hc2 ⊢
  obtain ⟨⟨a0, a1⟩, -, -⟩ := row_fr ra
  go_wp2_with fail
  refine (share_any x y a b W0).mono ?_
  rintro e w1 ⟨rfl, hb1⟩
  go_wp2_with fail
  go_ret
  exact ⟨rfl, hA.trans (hb1.mono hA.size)⟩

set_option maxRecDepth 100000 in
set_option maxHeartbeats 4000000 in
theorem indexShare_any (x y : Int) (B : Nat) (l : List (Int × Int)) (ao : Option Addr) (n cap : Nat) (w : World) (_ : B < w.heap.size) (hc : w.cell? ⟨B, 0, none⟩ = some (.int .i64 x)) (hc2 : w.cell? ⟨B, 1, none⟩ = some (.int .i64 y)) (hI : Pts w ao l) (hn : n = l.length) (hn9 : n ≤ 100000) :
    Calls Try.prog 104 #[.slice ao n cap, .func (.func 89) #[] #[.pointer (some ⟨B, 0, none⟩)]] w fun e w' => (∃ i : Int, e = .returned (.int .i64 i) ∧ (0 ≤ i ↔ Tm.shares x y l = true)) ∧ Below w.heap.size w w' := by
  have Hn := Lib.hid hn
  clear hn
  go_enter Try.func104, Try.ntmps104
  go_wp2_with fail
  go_loopw [5, 8] (fun _ i wr => ∃ k : Nat, k ≤ n ∧ i = .int .i64 k ∧ Hid (∀ j, j < k → (decide (x ≤ (l.getD j (0, 0)).2) && decide ((l.getD j (0, 0)).1 ≤ y)) = false) ∧ Below w.heap.size w wr) (fun _ i _ => n - (intOf i).toNat)
  case atStart => exact ⟨0, Nat.zero_le _, rfl, Lib.hid fun j hj => (by omega), Below.refl _ _⟩
  case round =>
    obtain ⟨k, hk, rfl, hall, hb⟩ := hrel
    by_cases hlt : k < n
    · have hkl : k < l.length := by have := Hn.out; omega
      obtain ⟨b, off, rfl, hbs, hcc⟩ := (hI.below hb).cells (by omega)
      obtain ⟨z0, z1⟩ := hcc k hkl
      have hcB := keep_cell hb hc
      have hcB2 := keep_cell hb hc2
      have hmem : Hid (l.getD k (0, 0) ∈ l) := Lib.hid (by rw [List.getD_eq_getElem?_getD, List.getElem?_eq_getElem hkl]; exact List.getElem_mem hkl)
      obtain ⟨s, hs⟩ : ∃ s, s = l.getD k (0, 0) := ⟨_, rfl⟩
      rw [← hs] at z0 z1 hmem
      obtain ⟨p, q⟩ := s
      simp only at z0 z1
      have Hs := Lib.hid hs
      clear hs hcc
      have i1 : (k : Int) < (n : Int) := by omega
      go_wp2_with fail
      refine (share1_any x y B p q wr hcB hcB2).mono ?_
      rintro e w1 ⟨rfl, hb1⟩
      have hb2 := hb.trans (hb1.mono hb.size)
      obtain ⟨bv, hbv⟩ : ∃ b, (decide (x ≤ q) && decide (p ≤ y)) = b := ⟨_, rfl⟩
      rw [hbv]
      cases bv with
      | true =>
        have hv := Lib.hid (show Tm.shares x y l = true by unfold Tm.shares; rw [List.any_eq_true]; exact ⟨_, hmem.out, hbv⟩)
        clear hbv
        go_wp2_with fail
        go_ret
        exact ⟨⟨_, rfl, ⟨fun _ => hv.out, fun _ => by omega⟩⟩, hb2⟩
      | false =>
        have hall2 : Hid (∀ j, j < k + 1 → (decide (x ≤ (l.getD j (0, 0)).2) && decide ((l.getD j (0, 0)).1 ≤ y)) = false) := Lib.hid fun j hj => by
          rcases Nat.lt_or_ge j k with h | h
          · exact hall.out j h
          · rw [show j = k by omega, ← Hs.out]; exact hbv
        clear hbv
        go_wp2_with fail
        go_roundw
        case rel => exact ⟨k + 1, by omega, by go_num, hall2, hb2⟩
        case measure => simp [intOf]; omega
    · have hkn : k = n := by omega
      have hv : Hid (¬ Tm.shares x y l = true) := Lib.hid fun hm => by
        unfold Tm.shares at hm
        rw [List.any_eq_true] at hm
        obtain ⟨s, hs, e⟩ := hm
        obtain ⟨j, hj, rfl⟩ := List.getElem_of_mem hs
        have := hall.out j (by rw [hkn, Hn.out]; exact hj)
        rw [List.getD_eq_getElem?_getD, List.getElem?_eq_getElem hj] at this
        simp only [Option.getD_some] at this
        rw [this] at e
        cases e
      clear hkn
      go_wp2_with fail
      go_ret
      exact ⟨⟨_, rfl, ⟨fun h => absurd h (by omega), fun h => absurd h hv.out⟩⟩, hb⟩

set_option maxRecDepth 100000 in
set_option maxHeartbeats 2000000 in
theorem containsShare_any (x y : Int) (B : Nat) (l : List (Int × Int)) (ao : Option Addr) (n cap : Nat) (w : World) (hB : B < w.heap.size) (hc : w.cell? ⟨B, 0, none⟩ = some (.int .i64 x)) (hc2 : w.cell? ⟨B, 1, none⟩ = some (.int .i64 y)) (hI : Pts w ao l) (hn : n = l.length) (hn9 : n ≤ 100000) :
    Calls Try.prog 88 #[.slice ao n cap, .func (.func 89) #[] #[.pointer (some ⟨B, 0, none⟩)]] w fun e w' => e = .returned (.bool (Tm.shares x y l)) ∧ Below w.heap.size w w' := by
  obtain ⟨bv, hbv⟩ : ∃ b, Tm.shares x y l = b := ⟨_, rfl⟩
  rw [hbv]
  have Hb := Lib.hid hbv
  clear hbv
  have hX := indexShare_any x y B l ao n cap w hB hc hc2 hI hn hn9
  clear hn hI
  go_enter Try.func88, Try.ntmps88
  go_wp2_with fail
  refine hX.mono ?_
  clear hX
  rintro e w' ⟨⟨i, rfl, hi⟩, hb1⟩
  cases bv with
  | true =>
    have h0 : 0 ≤ i := hi.2 Hb.out
    clear hi Hb
    go_wp2_with fail
    go_ret
    exact ⟨rfl, hb1⟩
  | false =>
    have h0 : decide (0 ≤ i) = false := decide_eq_false fun h => by have := hi.1 h; rw [Hb.out] at this; cases this
    clear hi Hb
    go_wp2_with fail
    go_ret
    exact ⟨rfl, hb1⟩


theorem row3 {w' : World} {g : Nat} {a b c : Value} {t : TypeId} (hh : w'.heap[g]? = some (.cells #[a, b, c] t (0, 0))) :
    (w'.cell? ⟨g, 0, none⟩ = some a ∧ w'.cell? ⟨g, 1, none⟩ = some b ∧ w'.cell? ⟨g, 2, none⟩ = some c) ∧ w'.frozen? ⟨g, 0, none⟩ = false ∧ w'.frozen? ⟨g, 1, none⟩ = false ∧ w'.frozen? ⟨g, 2, none⟩ = false := by
  refine ⟨⟨?_, ?_, ?_⟩, ?_, ?_, ?_⟩
  · rw [cell_of_row w' g 0 _ _ _ hh]; rfl
  · rw [cell_of_row w' g 1 _ _ _ hh]; rfl
  · rw [cell_of_row w' g 2 _ _ _ hh]; rfl
  · simp [World.frozen?, hh]
  · simp [World.frozen?, hh]
  · simp [World.frozen?, hh]
theorem three_cells {w : World} {g : Nat} {a b c : Value} {t : TypeId} (hh : w.heap[g]? = some (.cells #[a, b, c] t (0, 0))) (u v z : Value) :
    (((w.setCell ⟨g, 0, none⟩ u).setCell ⟨g, 1, none⟩ v).setCell ⟨g, 2, none⟩ z).heap[g]? = some (.cells #[u, v, z] t (0, 0)) := by
  have := heap_setCell_same _ g 2 _ t z (heap_setCell_same _ g 1 _ t v (heap_setCell_same w g 0 _ t u hh))
  simpa using this
theorem cell_set_other {w : World} {g h o q : Nat} {x : Value} (u : Value) (hne : h ≠ g) (hx : w.cell? ⟨h, o, none⟩ = some x) : (w.setCell ⟨g, q, none⟩ u).cell? ⟨h, o, none⟩ = some x := by
  rw [← hx]
  exact World.cell?_setCell_far w ⟨g, q, none⟩ ⟨h, o, none⟩ u (fun e => hne e.symm)
theorem own_set_other {w : World} {base n size g o : Nat} {e : TypeId} {v u : Value} {xs : List Value} (h : w.ownsRow base e size v n xs) (hg : g < base) : (w.setCell ⟨g, o, none⟩ u).ownsRow base e size v n xs := by
  refine ⟨h.1, ?_⟩
  rcases h.2 with h2 | ⟨k, cap, cur, e1, h3, h4, rest⟩
  · exact .inl h2
  · exact .inr ⟨k, cap, cur, e1, h3, (heap_setCell_other w ⟨g, o, none⟩ k u (by show k ≠ g; omega)).trans h4, rest⟩
theorem infoCal3 : (Try.prog.info? 25).map (·.size) = some 3 := by kernel_rfl

set_option maxRecDepth 100000 in
set_option maxHeartbeats 4000000 in
theorem with_any (f : Int) (F : List Int) (S : List (Int × Int)) (aoF : Option Addr) (nF cF : Nat) (aoS : Option Addr) (nS cS : Nat) (x y : Int) (w : World) (hcl : Cl w aoF nF aoS nS F S) (h9 : nF ≤ 100000) (h8 : nS ≤ 4) :
    Calls Try.prog 91 #[.agg #[.int .i64 f, .slice aoF nF cF, .slice aoS nS cS], .agg #[.int .i64 x, .int .i64 y]] w fun e w' => (∃ (vF vS : Value) (L : List (Int × Int)), e = .returned (.agg #[.int .i64 f, vF, vS]) ∧ L.Perm (S ++ [(x, y)]) ∧ L.Pairwise (fun a b => a.1 ≤ b.1) ∧ w'.ownsRow w.heap.size 3 1 vF nF (F.map (Value.int .i64)) ∧ w'.ownsRow w.heap.size 64 2 vS (nS + 1) (flat2 L)) ∧ Below w.heap.size w w' := by
  obtain ⟨i0, hi0, hz0, hz1, hz2⟩ := info_rt
  have hA := below_alloc3 w (.cells #[.int .i64 f, .slice aoF nF cF, .slice aoS nS cS] 71) (.cells #[.int .i64 x, .int .i64 y] 64) (.cells #[.int .i64 0, .slice none 0 0, .slice none 0 0] 25)
  obtain ⟨rc, rs, rr⟩ := heap3 w (.cells #[.int .i64 f, .slice aoF nF cF, .slice aoS nS cS] 71) (.cells #[.int .i64 x, .int .i64 y] 64) (.cells #[.int .i64 0, .slice none 0 0, .slice none 0 0] 25)
  have hsz : (((w.alloc (.cells #[.int .i64 f, .slice aoF nF cF, .slice aoS nS cS] 71)).alloc (.cells #[.int .i64 x, .int .i64 y] 64)).alloc (.cells #[.int .i64 0, .slice none 0 0, .slice none 0 0] 25)).heap.size = w.heap.size + 3 := by simp
  go_enter Try.func91, Try.ntmps91
  go_upto_region 1 with fail
  generalize ((w.alloc (.cells #[.int .i64 f, .slice aoF nF cF, .slice aoS nS cS] 71)).alloc (.cells #[.int .i64 x, .int .i64 y] 64)).alloc (.cells #[.int .i64 0, .slice none 0 0, .slice none 0 0] 25) = W0 at hA rc rs rr hsz ⊢
  obtain ⟨G, hG⟩ : ∃ g, g = w.heap.size := ⟨_, rfl⟩
  rw [← hG] at rc rs rr hsz ⊢
  have HG := Lib.hid hG
  clear hG
  replace hcl := hcl.below hA
  have c0 := cell_of_row W0 G 0 _ _ _ rc
  have c1 := cell_of_row W0 G 1 _ _ _ rc
  have c2 := cell_of_row W0 G 2 _ _ _ rc
  have d0 := cell_of_row W0 (G + 1) 0 _ _ _ rs
  have d1 := cell_of_row W0 (G + 1) 1 _ _ _ rs
  simp at c0 c1 c2 d0 d1
  have Hsz := Lib.hid hsz
  clear hsz
  have hdr : Below W0.heap.size W0 W0.drew := below_drewN (Below.refl W0.heap.size W0) 1
  have HC := Lib.hid fun w' (hb : Below W0.heap.size W0 w') => cloneSpans_any S aoS nS cS w' (hcl.hS.below hb) hcl.ns (by omega)
  go_cut [5] from 6 to 12 (fun v5 wx => wx.ownsRow W0.heap.size 64 2 v5 (nS + 1) (flat2 (S ++ [(x, y)])) ∧ Below W0.heap.size W0 wx)
  case first =>
    refine wp_region_held_drew (S := fun w' => w'.cell? ⟨G, 2, none⟩ = some (.slice aoS nS cS) ∧ w'.cell? ⟨G + 1, 0, none⟩ = some (.int .i64 x) ∧ w'.cell? ⟨G + 1, 1, none⟩ = some (.int .i64 y)) (by kernel_rfl) ⟨keep_cell hdr c2, keep_cell hdr d0, keep_cell hdr d1⟩ (fun hHeld => ?_)
    refine wpAnyH_take (i := 0) (v := .pointer (some ⟨G, 2, none⟩)) rfl (by kernel_rfl) (by kernel_rfl) (by kernel_rfl) (fun _ _ _ h => h) (Or.inl ⟨by rfl, fun w hSw => ?_⟩) (by assumption) ?_
    · obtain ⟨s0, s1, s2⟩ := hSw
      (go_simp <;> omega)
    try simp only [List.getElem_toArray, List.getElem_cons_zero, Act.put, List.setIfInBounds_toArray, List.set_cons_zero, List.set_cons_succ]
    refine wpAnyH_take (i := 1) (v := .slice aoS nS cS) rfl (by kernel_rfl) (by kernel_rfl) (by kernel_rfl) (fun _ _ _ h => h) (Or.inl ⟨by rfl, fun w hSw => ?_⟩) (by assumption) ?_
    · obtain ⟨s0, s1, s2⟩ := hSw
      (go_simp <;> omega)
    try simp only [List.getElem_toArray, List.getElem_cons_zero, List.getElem_cons_succ, Act.put, List.setIfInBounds_toArray, List.set_cons_zero, List.set_cons_succ]
    refine wpAnyH_take (i := 3) (v := .agg #[.int .i64 x, .int .i64 y]) rfl (by kernel_rfl) (by kernel_rfl) (by kernel_rfl) (fun _ _ _ h => h) (Or.inl ⟨by rfl, fun w hSw => ?_⟩) (by assumption) ?_
    · obtain ⟨s0, s1, s2⟩ := hSw
      (go_simp <;> omega)
    try simp only [List.getElem_toArray, List.getElem_cons_zero, List.getElem_cons_succ, Act.put, List.setIfInBounds_toArray, List.set_cons_zero, List.set_cons_succ]
    refine wpAnyH_ready (rs := [2, 4]) (by kernel_rfl) (by simp) ?_
    refine AllReadyH.cons rfl (fun K hK => ?_) (AllReadyH.cons rfl (fun K hK => ?_) AllReadyH.nil)
    · go_simp
      go_at_call 105
      refine (HC.out _ hdr).mono ?_
      rintro e w1 ⟨⟨v1, rfl, ho1⟩, hbb⟩
      have hb1 : Below W0.heap.size W0 w1 := hdr.trans (hbb.mono hdr.size)
      have ho2 : w1.ownsRow W0.heap.size 64 2 v1 nS (flat2 S) := own_mono ho1 hdr.size
      (try dsimp only)
      refine hK.out _ _ ⟨keep_cell hb1 c2, keep_cell hb1 d0, keep_cell hb1 d1⟩ (fun hHeld => ?_)
      clear hK K
      try simp only [List.getElem_toArray, List.getElem_cons_zero, List.getElem_cons_succ, Act.put, List.setIfInBounds_toArray, List.set_cons_zero, List.set_cons_succ]
      refine wpAnyH_ready (rs := [4]) (by kernel_rfl) (by simp) ?_
      refine AllReadyH.cons rfl (fun K hK => ?_) AllReadyH.nil
      go_simp
      have hb2 : Below W0.heap.size W0 (w1.alloc (.cells #[.int .i64 x, .int .i64 y] 64)) := hb1.alloc hb1.size _
      have hnew := heap_alloc_new w1 (.cells #[.int .i64 x, .int .i64 y] 64)
      have hownX := ho2.alloc (.cells #[.int .i64 x, .int .i64 y] 64)
      (try dsimp only)
      refine hK.out _ _ ⟨keep_cell hb2 c2, keep_cell hb2 d0, keep_cell hb2 d1⟩ (fun hHeld => ?_)
      clear hK K
      try simp only [List.getElem_toArray, List.getElem_cons_zero, List.getElem_cons_succ, Act.put, List.setIfInBounds_toArray, List.set_cons_zero, List.set_cons_succ]
      refine wpAnyH_ready (rs := [5]) (by kernel_rfl) (by simp) ?_
      refine AllReadyH.cons rfl (fun K hK => ?_) AllReadyH.nil
      refine step_append_lies _ (by rfl) _ _ _ (by rfl) W0.heap.size 64 i0 _ 2 16 Try.underlying23 hi0 hz0 hz1 hz2 rfl (by omega) _ nS _ (by rfl) hownX ⟨w1.heap.size, 0, none⟩ 1 1 [.int .i64 x, .int .i64 y] (by rfl) (by rfl) (World.news_of_block (cs := #[.int .i64 x, .int .i64 y]) (t := 64) (fr := (0, 0)) hnew) (by simp [Value.oneCell']) (by omega) (by unfold maxLen; omega) (by omega) hb2.size ((w1.alloc (.cells #[.int .i64 x, .int .i64 y] 64)).heap.size) rfl ?_
      intro gg cap5 w5 hown1 hgrow hat hlt5
      have hb5 : Below W0.heap.size W0 w5 := hb2.grown hgrow hb2.size (fun q hq => (hownX.lt _ hq).1)
      have hown2 : w5.ownsRow W0.heap.size 64 2 (.slice (some ⟨gg, 0, none⟩) (nS + 1) cap5) (nS + 1) (flat2 (S ++ [(x, y)])) := by rw [flat2_app]; exact hown1
      (try dsimp only)
      refine hK.out _ _ ⟨keep_cell hb5 c2, keep_cell hb5 d0, keep_cell hb5 d1⟩ (fun hHeld => ?_)
      clear hK K hown1 hgrow hat
      try simp only [List.getElem_toArray, List.getElem_cons_zero, List.getElem_cons_succ, Act.put, List.setIfInBounds_toArray, List.set_cons_zero, List.set_cons_succ]
      refine wpAnyH_take (i := 6) (v := .slice (some ⟨gg, 0, none⟩) (nS + 1) cap5) rfl (by kernel_rfl) (by kernel_rfl) (by kernel_rfl) (fun _ _ _ h => h) (Or.inl ⟨by rfl, fun w hSw => ?_⟩) (by assumption) ?_
      · (try dsimp only at hSw); (go_simp <;> omega)
      try simp only [List.getElem_toArray, List.getElem_cons_zero, List.getElem_cons_succ, Act.put, List.setIfInBounds_toArray, List.set_cons_zero, List.set_cons_succ]
      refine wpAnyH_done (by kernel_rfl) ?_ _
      go_wp2_with fail
      go_meet
      exact ⟨hown2, hb5⟩
    · go_simp
      have hb1 : Below W0.heap.size W0 (W0.alloc (.cells #[.int .i64 x, .int .i64 y] 64)).drew := ((Below.refl _ W0).alloc (Nat.le_refl _) _).trans (below_drewN (Below.refl W0.heap.size _) 1)
      have hnew0 : (W0.alloc (.cells #[.int .i64 x, .int .i64 y] 64)).drew.heap[W0.heap.size]? = some (.cells #[.int .i64 x, .int .i64 y] 64 (0, 0)) := heap_alloc_new W0 _
      generalize (W0.alloc (.cells #[.int .i64 x, .int .i64 y] 64)).drew = w1 at hb1 hnew0 ⊢
      (try dsimp only)
      refine hK.out _ _ ⟨keep_cell hb1 c2, keep_cell hb1 d0, keep_cell hb1 d1⟩ (fun hHeld => ?_)
      clear hK K
      try simp only [List.getElem_toArray, List.getElem_cons_zero, List.getElem_cons_succ, Act.put, List.setIfInBounds_toArray, List.set_cons_zero, List.set_cons_succ]
      refine wpAnyH_ready (rs := [2]) (by kernel_rfl) (by simp) ?_
      refine AllReadyH.cons rfl (fun K hK => ?_) AllReadyH.nil
      go_simp
      go_at_call 105
      refine (HC.out _ hb1).mono ?_
      rintro e w2 ⟨⟨v1, rfl, ho1⟩, hbb⟩
      have hb2 : Below W0.heap.size W0 w2 := hb1.trans (hbb.mono hb1.size)
      have hownX : w2.ownsRow W0.heap.size 64 2 v1 nS (flat2 S) := own_mono ho1 hb1.size
      have hnew := heap_keep hbb hnew0
      (try dsimp only)
      refine hK.out _ _ ⟨keep_cell hb2 c2, keep_cell hb2 d0, keep_cell hb2 d1⟩ (fun hHeld => ?_)
      clear hK K
      try simp only [List.getElem_toArray, List.getElem_cons_zero, List.getElem_cons_succ, Act.put, List.setIfInBounds_toArray, List.set_cons_zero, List.set_cons_succ]
      refine wpAnyH_ready (rs := [5]) (by kernel_rfl) (by simp) ?_
      refine AllReadyH.cons rfl (fun K hK => ?_) AllReadyH.nil
      refine step_append_lies _ (by rfl) _ _ _ (by rfl) W0.heap.size 64 i0 _ 2 16 Try.underlying23 hi0 hz0 hz1 hz2 rfl (by omega) _ nS _ (by rfl) hownX ⟨W0.heap.size, 0, none⟩ 1 1 [.int .i64 x, .int .i64 y] (by rfl) (by rfl) (World.news_of_block (cs := #[.int .i64 x, .int .i64 y]) (t := 64) (fr := (0, 0)) hnew) (by simp [Value.oneCell']) (by omega) (by unfold maxLen; omega) (by omega) hb2.size (w2.heap.size) rfl ?_
      intro gg cap5 w5 hown1 hgrow hat hlt5
      have hb5 : Below W0.heap.size W0 w5 := hb2.grown hgrow hb2.size (fun q hq => (hownX.lt _ hq).1)
      have hown2 : w5.ownsRow W0.heap.size 64 2 (.slice (some ⟨gg, 0, none⟩) (nS + 1) cap5) (nS + 1) (flat2 (S ++ [(x, y)])) := by rw [flat2_app]; exact hown1
      (try dsimp only)
      refine hK.out _ _ ⟨keep_cell hb5 c2, keep_cell hb5 d0, keep_cell hb5 d1⟩ (fun hHeld => ?_)
      clear hK K hown1 hgrow hat
      try simp only [List.getElem_toArray, List.getElem_cons_zero, List.getElem_cons_succ, Act.put, List.setIfInBounds_toArray, List.set_cons_zero, List.set_cons_succ]
      refine wpAnyH_take (i := 6) (v := .slice (some ⟨gg, 0, none⟩) (nS + 1) cap5) rfl (by kernel_rfl) (by kernel_rfl) (by kernel_rfl) (fun _ _ _ h => h) (Or.inl ⟨by rfl, fun w hSw => ?_⟩) (by assumption) ?_
      · (try dsimp only at hSw); (go_simp <;> omega)
      try simp only [List.getElem_toArray, List.getElem_cons_zero, List.getElem_cons_succ, Act.put, List.setIfInBounds_toArray, List.set_cons_zero, List.set_cons_succ]
      refine wpAnyH_done (by kernel_rfl) ?_ _
      go_wp2_with fail
      go_meet
      exact ⟨hown2, hb5⟩
  case rest =>
    obtain ⟨ho, hb⟩ := hcut
    go_wp2_with fail
    refine (sortSpans_any (S ++ [(x, y)]) (nS + 1) W0.heap.size 64 _ _ ho (by rw [List.length_append, hcl.ns]; rfl) (by omega) (by omega)).mono ?_
    rintro e w3 ⟨⟨rfl, L, hp, hs, ho3⟩, hb3⟩
    have kr : ∀ i o, i < G + 3 → W0.heap[i]? = some o → w3.heap[i]? = some o := fun i o hi h => by
      have h1 := (hb.trans hb3).block i (by have := Hsz.out; omega)
      exact h1.trans h
    have rr3 := kr _ _ (by omega) rr
    have rc3 := kr _ _ (by omega) rc
    have e0 := cell_of_row w3 G 0 _ _ _ rc3
    have e1 := cell_of_row w3 G 1 _ _ _ rc3
    simp at e0 e1
    have hA3 := hA.trans ((hb.trans hb3).mono hA.size)
    have hcl3 := hcl.below ((hb.trans hb3))
    have hlt3 := heap_lt rr3
    clear kr rr rc rs hb hb3 ho hdr HC c0 c1 c2 d0 d1 hA
    have hL : nS + 1 = L.length := by rw [hp.length_eq, List.length_append, hcl.ns]; rfl
    obtain ⟨ao5, cap5, rfl, -, -⟩ := own_pts2 ho3 hL
    have HO3 := Lib.hid ho3
    have HP := Lib.hid hp
    have HS := Lib.hid hs
    clear ho3 hp hs hL
    have hdr3 : Below w3.heap.size w3 w3.drew := below_drewN (Below.refl w3.heap.size w3) 1
    have HC := Lib.hid (cloneInts_any F aoF nF cF w3.drew (hcl3.hF.below hdr3) hcl3.nf h9)
    go_upto_region 3 with fail
    go_region_held3 (fun w' => w'.cell? ⟨G, 0, none⟩ = some (.int .i64 f) ∧ w'.cell? ⟨G, 1, none⟩ = some (.slice aoF nF cF))
      (first | exact ⟨keep_cell hdr3 e0, keep_cell hdr3 e1⟩ | exact ka | exact ⟨cell_set_other _ (by omega) (cell_set_other _ (by omega) (cell_set_other _ (by omega) ka.1)), cell_set_other _ (by omega) (cell_set_other _ (by omega) (cell_set_other _ (by omega) ka.2))⟩)
      (first | (go_at_call 109; refine HC.out.mono ?_; rintro e w4 ⟨⟨v4, rfl, ho4⟩, hbb⟩; have hk4 := own_ints ho4 hcl3.nf; obtain ⟨ao4, cap4, rfl, -, -⟩ := hk4; have HO4 := Lib.hid ho4; clear ho4; have hb4 := hdr3.trans (hbb.mono hdr3.size); have rr4 := heap_keep hb4 rr3; have rw4 := row3 rr4; obtain ⟨⟨s0, s1, s2⟩, t0, t1, t2⟩ := rw4; have ka := And.intro (keep_cell hb4 e0) (keep_cell hb4 e1)))
    all_goals
      have ho5 := own_below HO3.out hb4
      have hszz := Hsz.out
      have hGG := HG.out
      have hA4 := hA3.trans (hb4.mono hA3.size)
      have o5 := own_mono (base' := w.heap.size) (own_set_other (g := G + 1 + 1) (o := 2) (u := .slice ao5 (nS + 1) cap5) (own_set_other (g := G + 1 + 1) (o := 1) (u := .slice ao4 nF cap4) (own_set_other (g := G + 1 + 1) (o := 0) (u := .int .i64 f) ho5 (by omega)) (by omega)) (by omega)) (by omega)
      have o4 := own_mono (base' := w.heap.size) (own_set_other (g := G + 1 + 1) (o := 2) (u := .slice ao5 (nS + 1) cap5) (own_set_other (g := G + 1 + 1) (o := 1) (u := .slice ao4 nF cap4) (own_set_other (g := G + 1 + 1) (o := 0) (u := .int .i64 f) HO4.out (show G + 1 + 1 < w3.heap.size by omega)) (show G + 1 + 1 < w3.heap.size by omega)) (show G + 1 + 1 < w3.heap.size by omega)) (show w.heap.size ≤ w3.heap.size from hA3.size)
      have O5 := Lib.hid o5
      have O4 := Lib.hid o4
      have hGw : w.heap.size ≤ G + 1 + 1 := by omega
      clear ho5 o5 o4 HO3 HO4 ka hszz hGG
      go_wp2_with fail
      exact bodyPost_ret (results_cell_row rfl _ _ _ _ _ _ _ rfl (three_cells rr4 _ _ _) Try.underlying25 rfl infoCal3) rfl ⟨⟨_, _, L, rfl, HP.out, HS.out, O4.out, O5.out⟩, below_setCell (below_setCell (below_setCell hA4 hGw _) hGw _) hGw _⟩
end Go.Proofs.Ytmdkdkiejcjmaaa
