import Derived.Test.YtmdkdkiejcjmaaaTo
import Derived.BigQuiet
/- Package selionref08: SameInts, Swing. -/
namespace Go.Proofs.Ytmdkdkiejcjmaaa
open Go.RowKit
set_option maxRecDepth 100000 in
set_option maxHeartbeats 1000000 in
theorem sameInts_any (u v : List Int) (ao : Option Addr) (n cap : Nat) (ao2 : Option Addr) (m cap2 : Nat) (w : World) (hI : Ints w ao u) (hln : n = u.length) (hI2 : Ints w ao2 v) (hlm : m = v.length) (hn : n ≤ 100000) (_ : m ≤ 100000) :
    Calls Try.prog 45 #[.slice ao n cap, .slice ao2 m cap2] w fun e w' => e = .returned (.bool (decide (u = v))) ∧ Below w.heap.size w w' := by
  have Hn := Lib.hid hln
  have Hm := Lib.hid hlm
  clear hln hlm
  by_cases hne : n = m
  · subst hne
    go_enter Try.func45, Try.ntmps45
    go_wp2
    go_loopw [5] (fun i wr => ∃ k : Nat, k ≤ n ∧ i = .int .i64 k ∧ Hid (∀ j, j < k → u.getD j 0 = v.getD j 0) ∧ Below w.heap.size w wr) (fun i _ => n - (intOf i).toNat)
    case atStart => exact ⟨0, Nat.zero_le _, rfl, Lib.hid (fun j hj => by omega), Below.refl _ _⟩
    case round =>
      obtain ⟨k, hk, rfl, hall, hb⟩ := hrel
      by_cases hlt : k < n
      · obtain ⟨ba, oa, rfl, ha, hca⟩ := hI.at (k := k) (by have := Hn.out; omega)
        obtain ⟨bb, ob, rfl, hbl, hcb⟩ := hI2.at (k := k) (by have := Hm.out; omega)
        replace hca := keep_cell hb hca
        replace hcb := keep_cell hb hcb
        have ku : k < u.length := by have := Hn.out; omega
        have kv : k < v.length := by have := Hm.out; omega
        have eu : u.getD k 0 = u[k] := by rw [List.getD_eq_getElem?_getD, List.getElem?_eq_getElem ku]; rfl
        have ev : v.getD k 0 = v[k] := by rw [List.getD_eq_getElem?_getD, List.getElem?_eq_getElem kv]; rfl
        have hnq := Lib.hid (fun h => list_neI ku kv h)
        rw [← eu, ← ev] at hnq
        obtain ⟨x, hx⟩ : ∃ x, x = u.getD k 0 := ⟨_, rfl⟩
        obtain ⟨y, hy⟩ : ∃ x, x = v.getD k 0 := ⟨_, rfl⟩
        rw [← hx] at hca hnq
        rw [← hy] at hcb hnq
        have HX := Lib.hid (And.intro hx hy)
        have i1 : (k : Int) < (n : Int) := by omega
        clear hx hy eu ev ku kv
        by_cases hyz : x = y
        · subst hyz
          go_wp2_with fail
          go_quiet (fail)
          go_wp2
          go_roundw
          case rel =>
            refine ⟨k + 1, by omega, by go_num, Lib.hid fun j hj => ?_, below_drewN hb _⟩
            by_cases e : j = k
            · subst e; rw [← HX.out.1, ← HX.out.2]
            · exact hall.out j (by omega)
          case measure => simp [intOf]; omega
        · have hyzb : (x != y) = true := by simpa using hyz
          have hR := Lib.hid (hnq.out hyz)
          clear hyz
          go_wp2_with fail
          go_quiet (fail)
          go_wp2
          go_ret
          exact ⟨ret_bool hR.out.symm, below_drewN hb _⟩
      · have hR : Hid (decide (u = v) = true) := Lib.hid (by
          rw [decide_eq_true_eq]
          apply List.ext_getElem (by rw [← Hn.out, ← Hm.out])
          intro i h1 h2
          have := hall.out i (by have := Hn.out; omega)
          rw [List.getD_eq_getElem?_getD, List.getElem?_eq_getElem h1, List.getD_eq_getElem?_getD, List.getElem?_eq_getElem h2] at this
          exact this)
        go_wp2
        go_ret
        exact ⟨ret_bool hR.out.symm, hb⟩
  · have hne2 : ((n : Int) != (m : Int)) = true := by simp; omega
    have hR : Hid (decide (u = v) = false) := Lib.hid (by
      rw [decide_eq_false_iff_not]
      rintro rfl
      exact hne (by rw [Hn.out, Hm.out]))
    clear hne
    go_enter Try.func45, Try.ntmps45
    go_wp2
    go_ret
    exact ⟨ret_bool hR.out.symm, Below.refl _ _⟩

namespace Ve
theorem getD_flip (l : List (Int × Bool)) (i j : Nat) (b : Bool) (hi : i < l.length) : (l.set i ((l.getD i (0, false)).1, b)).getD j (0, false) = if i = j then ((l.getD j (0, false)).1, b) else l.getD j (0, false) := by
  by_cases h : i = j
  · subst h
    rw [if_pos rfl, List.getD_eq_getElem?_getD, List.getElem?_set_self hi]; rfl
  · rw [if_neg h, List.getD_eq_getElem?_getD, List.getElem?_set_ne h, ← List.getD_eq_getElem?_getD]
theorem flip_code {l : List (Int × Bool)} (h : code l = 0) {i : Nat} (hi : i < l.length) (b : Bool) : code (l.set i ((l.getD i (0, false)).1, b)) = 0 := by
  obtain ⟨h1, h2⟩ := code_ok h
  refine code_of (by rw [List.length_set]; exact h1) fun k hk => ?_
  rw [List.length_set] at hk
  rw [getD_flip l i k b hi]
  have := h2 k hk
  split <;> exact this
theorem flip_eq (l : List (Int × Bool)) {i : Nat} (hi : i < l.length) (k : Nat) :
    hd (l.set i ((l.getD i (0, false)).1, !(l.getD i (0, false)).2)) (-1) k = hd l i k ∧ ld (l.set i ((l.getD i (0, false)).1, !(l.getD i (0, false)).2)) (-1) k = ld l i k ∧ al (l.set i ((l.getD i (0, false)).1, !(l.getD i (0, false)).2)) k = al l k := by
  induction k with
  | zero => exact ⟨rfl, rfl, rfl⟩
  | succ k ih =>
    obtain ⟨a, b, c⟩ := ih
    have hy : yes (l.set i ((l.getD i (0, false)).1, !(l.getD i (0, false)).2)) (-1) k = yes l i k := by
      rw [Ve_yes, getD_flip l i k _ hi]
      unfold yes
      by_cases h : i = k
      · subst h
        rw [if_pos rfl]; simp
      · rw [if_neg h, decide_eq_false (by omega)]; simp
    have hx : ((l.set i ((l.getD i (0, false)).1, !(l.getD i (0, false)).2)).getD k (0, false)).1 = (l.getD k (0, false)).1 := by
      rw [getD_flip l i k _ hi]; split <;> rfl
    simp only [hd, ld, al, hy, hx, a, b, c, and_self]
theorem flip_both (l : List (Int × Bool)) {i : Nat} (hi : i < l.length) :
    heads (l.set i ((l.getD i (0, false)).1, !(l.getD i (0, false)).2)) (-1) = heads l i ∧ land (l.set i ((l.getD i (0, false)).1, !(l.getD i (0, false)).2)) (-1) = land l i := by
  obtain ⟨a, b, c⟩ := flip_eq l hi l.length
  unfold heads land
  rw [List.length_set, a, b, c]
  exact ⟨rfl, rfl⟩
end Ve


set_option maxRecDepth 100000 in
set_option maxHeartbeats 16000000 in
theorem refSwing_any (l : List (Int × Bool)) (ao : Option Addr) (n cap : Nat) (w : World) (hI : Vts w ao l) (hn : n = l.length) (hn9 : n ≤ 100000) :
    Calls Try.prog 51 #[.slice ao n cap] w fun e w' => (∃ ao2 m cap2, e = .returned (.tuple #[.slice ao2 m cap2, .int .i64 (Ve.code l)]) ∧ m = (Ve.swc l).length ∧ Ints w' ao2 (Ve.swc l)) ∧ Below w.heap.size w w' := by
  have Hn := Lib.hid hn
  have hV := voted_any l ao n cap w hI hn hn9
  obtain ⟨C, hC⟩ : ∃ r, r = Ve.code l := ⟨_, rfl⟩
  rw [← hC] at hV ⊢
  have HC := Lib.hid hC
  clear hC hn
  have hA := Below.refl w.heap.size w
  go_enter Try.func51, Try.ntmps51
  go_wp2_with fail
  refine hV.mono ?_
  clear hV
  rintro e w ⟨rfl, rfl⟩
  by_cases hz : C = 0
  · have hc := Lib.hid (HC.out.symm.trans hz)
    have h20 := (Ve.code_ok hc.out).1
    rw [← Hn.out] at h20
    have q : Hid (Ve.swc l = Ve.sw l n) := Lib.hid (by unfold Ve.swc; rw [if_pos hc.out, Hn.out])
    subst hz
    have hX := passes_any l _ _ cap w hI Hn.out hc.out
    obtain ⟨P1, hP1⟩ : ∃ b, b = Ve.heads l (-1) := ⟨_, rfl⟩
    obtain ⟨P2, hP2⟩ : ∃ b, b = Ve.land l (-1) := ⟨_, rfl⟩
    rw [← hP1, ← hP2] at hX
    have HP := Lib.hid (And.intro hP1 hP2)
    clear hP1 hP2
    obtain ⟨i0, hi0, hz0, hz1, hz2⟩ := info_vt
    obtain ⟨j0, hj0, hy0, hy1, hy2⟩ := info_in
    go_wp2_with fail
    refine hX.mono ?_
    clear hX
    rintro e w ⟨rfl, rfl⟩
    go_wp2_with fail
    go_loopw [5, 8] (fun v i wr => ∃ k m : Nat, k ≤ n ∧ i = .int .i64 k ∧ m ≤ k ∧ Hid (m = (Ve.sw l k).length) ∧ Hid (wr.ownsRow w.heap.size 3 1 v m ((Ve.sw l k).map (Value.int .i64))) ∧ Below w.heap.size w wr) (fun _ i _ => n - (intOf i).toNat)
    case atStart => exact ⟨0, 0, Nat.zero_le _, rfl, Nat.le_refl _, Lib.hid rfl, Lib.hid ⟨rfl, .inl ⟨rfl, rfl⟩⟩, hA⟩
    case round =>
      obtain ⟨k, m, hk, rfl, hmk, Hm, hown, hb⟩ := hrel
      by_cases hlt : k < n
      · have i1 : (k : Int) < (n : Int) := by omega
        have hkl : Hid (k < l.length) := Lib.hid (by rw [← Hn.out]; exact hlt)
        have hn0 : 0 < n := by omega
        have hIr := hI.below hb
        obtain ⟨b, off, rfl, hbs, -⟩ := hIr.cells (by rw [← Hn.out]; omega)
        have hal := (Below.refl wr.heap.size wr).alloc (Nat.le_refl _) (.cells #[] 59)
        have Hs := Lib.hid (vts_flat (hIr.below hal))
        clear hal hIr hA
        go_upto_region 10 with (first | (at_builtin; refine wpList_append_own _ rfl _ _ 55 rfl wr.heap.size 59 i0 (.agg #[.int .i64 0, .bool false]) 2 16 Try.underlying55 hi0 hz0 hz1 hz2 rfl (by decide) _ 0 [] rfl (own_new2 wr _) ⟨b, off, none⟩ n cap (vflat l) rfl (by rw [vflat_length, Hn.out]) Hs.out (vflat_one l) (by unfold maxLen; omega) (by omega) (by simp) ?_; intro v' w3 hown' hgrow3 hnil3))
        have hgb : Below wr.heap.size wr w3 := ((Below.refl _ wr).alloc (Nat.le_refl _) _).grown hgrow3 (by simp) (fun x hx => by cases hx; exact Nat.le_refl _)
        have hown2 : w3.ownsRow wr.heap.size 59 2 v' n (vflat l) := by
          have h := hown'
          rw [Nat.zero_add, List.nil_append] at h
          exact h
        clear hown' hgrow3 hnil3 Hs
        obtain ⟨g, cap5, rfl, hgb0, hgl, hcap, -, hat⟩ := own_vts hown2 Hn.out hn0
        obtain ⟨c1, f1, hset⟩ := hat k hlt
        have hV2 := hset (!(l.getD k (0, false)).2)
        have hcd := Lib.hid (Ve.flip_code hc.out hkl.out (!(l.getD k (0, false)).2))
        have hfb := Lib.hid (Ve.flip_both l hkl.out)
        obtain ⟨L', hL'⟩ : ∃ x, x = l.set k ((l.getD k (0, false)).1, !(l.getD k (0, false)).2) := ⟨_, rfl⟩
        rw [← hL'] at hV2 hcd hfb
        have hlen : Hid (n = L'.length) := Lib.hid (by rw [hL', List.length_set]; exact Hn.out)
        clear hL' hset hat hown2
        generalize (l.getD k (0, false)).2 = y at c1 hV2
        go_upto_region 11 with fail
        have hB2 : Below wr.heap.size wr (w3.setCell ⟨g, k * 2 + 1, none⟩ (.bool (!y))) := below_setCell hgb hgb0 _
        generalize w3.setCell ⟨g, k * 2 + 1, none⟩ (.bool (!y)) = W4 at hB2 hV2 ⊢
        have hown4 := Lib.hid (own_below hown.out hB2)
        have hb := hb.trans (hB2.mono hb.size)
        have hX := passes_any L' (some ⟨g, 0, none⟩) n cap5 W4 hV2 hlen.out hcd.out
        rw [hfb.out.1, hfb.out.2] at hX
        obtain ⟨X, hX1⟩ : ∃ b, b = Ve.heads l k := ⟨_, rfl⟩
        obtain ⟨Y, hY1⟩ : ∃ b, b = Ve.land l k := ⟨_, rfl⟩
        rw [← hX1, ← hY1] at hX
        have hst : Hid (Ve.sw l (k + 1) = Ve.sw l k ++ if (X && Y) != (P1 && P2) then [(k : Int)] else []) := Lib.hid (by rw [hX1, hY1, HP.out.1, HP.out.2]; rfl)
        clear hX1 hY1 HP hfb hcd hV2 hgb hB2 c1 f1 hown hlen
        have hs := hb.size
        go_wp2_with fail
        refine hX.mono ?_
        clear hX
        rintro e w6 ⟨rfl, hw6⟩
        subst hw6
        cases P1 with
        | true =>
          cases P2 with
          | true =>
            cases X with
            | true =>
              cases Y with
              | true =>
                go_wp2_with fail
                go_roundw
                case rel => exact ⟨k + 1, m, by omega, by go_num, by omega, Lib.hid (by rw [hst.out, Hm.out]; simp), Lib.hid (by rw [hst.out]; simpa using hown4.out), hb⟩
                case measure => simp [intOf]; omega
              | false =>
                go_wp2_with (first | (at_builtin; refine wpList_append_own _ rfl _ _ 22 rfl w.heap.size 3 j0 (.int .i64 0) 1 8 Try.underlying22 hj0 hy0 hy1 hy2 rfl (by decide) _ m _ rfl (hown4.out.alloc _) ⟨w6.heap.size, 0, none⟩ 1 1 [.int .i64 k] rfl rfl (World.news_of_block (cs := #[.int .i64 k]) (t := 3) (fr := (0, 0)) (heap_alloc_new w6 _)) (by simp [Value.oneCell']) (by unfold maxLen; omega) (by omega) (by simp; omega) ?_; intro v' w5 hown5 hgrow5 hnil5; have hb5 : Below w.heap.size w w5 := (hb.alloc hs _).grown hgrow5 (by simp; omega) (fun q hq => (hown4.out.lt _ hq).1); clear hgrow5 hnil5))
                go_roundw
                case rel => exact ⟨k + 1, m + 1, by omega, by go_num, by omega, Lib.hid (by rw [hst.out, List.length_append, Hm.out]; rfl), Lib.hid (by rw [hst.out, List.map_append]; exact hown5), hb5⟩
                case measure => simp [intOf]; omega
            | false =>
              cases Y with
              | true =>
                go_wp2_with (first | (at_builtin; refine wpList_append_own _ rfl _ _ 22 rfl w.heap.size 3 j0 (.int .i64 0) 1 8 Try.underlying22 hj0 hy0 hy1 hy2 rfl (by decide) _ m _ rfl (hown4.out.alloc _) ⟨w6.heap.size, 0, none⟩ 1 1 [.int .i64 k] rfl rfl (World.news_of_block (cs := #[.int .i64 k]) (t := 3) (fr := (0, 0)) (heap_alloc_new w6 _)) (by simp [Value.oneCell']) (by unfold maxLen; omega) (by omega) (by simp; omega) ?_; intro v' w5 hown5 hgrow5 hnil5; have hb5 : Below w.heap.size w w5 := (hb.alloc hs _).grown hgrow5 (by simp; omega) (fun q hq => (hown4.out.lt _ hq).1); clear hgrow5 hnil5))
                go_roundw
                case rel => exact ⟨k + 1, m + 1, by omega, by go_num, by omega, Lib.hid (by rw [hst.out, List.length_append, Hm.out]; rfl), Lib.hid (by rw [hst.out, List.map_append]; exact hown5), hb5⟩
                case measure => simp [intOf]; omega
              | false =>
                go_wp2_with (first | (at_builtin; refine wpList_append_own _ rfl _ _ 22 rfl w.heap.size 3 j0 (.int .i64 0) 1 8 Try.underlying22 hj0 hy0 hy1 hy2 rfl (by decide) _ m _ rfl (hown4.out.alloc _) ⟨w6.heap.size, 0, none⟩ 1 1 [.int .i64 k] rfl rfl (World.news_of_block (cs := #[.int .i64 k]) (t := 3) (fr := (0, 0)) (heap_alloc_new w6 _)) (by simp [Value.oneCell']) (by unfold maxLen; omega) (by omega) (by simp; omega) ?_; intro v' w5 hown5 hgrow5 hnil5; have hb5 : Below w.heap.size w w5 := (hb.alloc hs _).grown hgrow5 (by simp; omega) (fun q hq => (hown4.out.lt _ hq).1); clear hgrow5 hnil5))
                go_roundw
                case rel => exact ⟨k + 1, m + 1, by omega, by go_num, by omega, Lib.hid (by rw [hst.out, List.length_append, Hm.out]; rfl), Lib.hid (by rw [hst.out, List.map_append]; exact hown5), hb5⟩
                case measure => simp [intOf]; omega
          | false =>
            cases X with
            | true =>
              cases Y with
              | true =>
                go_wp2_with (first | (at_builtin; refine wpList_append_own _ rfl _ _ 22 rfl w.heap.size 3 j0 (.int .i64 0) 1 8 Try.underlying22 hj0 hy0 hy1 hy2 rfl (by decide) _ m _ rfl (hown4.out.alloc _) ⟨w6.heap.size, 0, none⟩ 1 1 [.int .i64 k] rfl rfl (World.news_of_block (cs := #[.int .i64 k]) (t := 3) (fr := (0, 0)) (heap_alloc_new w6 _)) (by simp [Value.oneCell']) (by unfold maxLen; omega) (by omega) (by simp; omega) ?_; intro v' w5 hown5 hgrow5 hnil5; have hb5 : Below w.heap.size w w5 := (hb.alloc hs _).grown hgrow5 (by simp; omega) (fun q hq => (hown4.out.lt _ hq).1); clear hgrow5 hnil5))
                go_roundw
                case rel => exact ⟨k + 1, m + 1, by omega, by go_num, by omega, Lib.hid (by rw [hst.out, List.length_append, Hm.out]; rfl), Lib.hid (by rw [hst.out, List.map_append]; exact hown5), hb5⟩
                case measure => simp [intOf]; omega
              | false =>
                go_wp2_with fail
                go_roundw
                case rel => exact ⟨k + 1, m, by omega, by go_num, by omega, Lib.hid (by rw [hst.out, Hm.out]; simp), Lib.hid (by rw [hst.out]; simpa using hown4.out), hb⟩
                case measure => simp [intOf]; omega
            | false =>
              cases Y with
              | true =>
                go_wp2_with fail
                go_roundw
                case rel => exact ⟨k + 1, m, by omega, by go_num, by omega, Lib.hid (by rw [hst.out, Hm.out]; simp), Lib.hid (by rw [hst.out]; simpa using hown4.out), hb⟩
                case measure => simp [intOf]; omega
              | false =>
                go_wp2_with fail
                go_roundw
                case rel => exact ⟨k + 1, m, by omega, by go_num, by omega, Lib.hid (by rw [hst.out, Hm.out]; simp), Lib.hid (by rw [hst.out]; simpa using hown4.out), hb⟩
                case measure => simp [intOf]; omega
        | false =>
          cases P2 with
          | true =>
            cases X with
            | true =>
              cases Y with
              | true =>
                go_wp2_with (first | (at_builtin; refine wpList_append_own _ rfl _ _ 22 rfl w.heap.size 3 j0 (.int .i64 0) 1 8 Try.underlying22 hj0 hy0 hy1 hy2 rfl (by decide) _ m _ rfl (hown4.out.alloc _) ⟨w6.heap.size, 0, none⟩ 1 1 [.int .i64 k] rfl rfl (World.news_of_block (cs := #[.int .i64 k]) (t := 3) (fr := (0, 0)) (heap_alloc_new w6 _)) (by simp [Value.oneCell']) (by unfold maxLen; omega) (by omega) (by simp; omega) ?_; intro v' w5 hown5 hgrow5 hnil5; have hb5 : Below w.heap.size w w5 := (hb.alloc hs _).grown hgrow5 (by simp; omega) (fun q hq => (hown4.out.lt _ hq).1); clear hgrow5 hnil5))
                go_roundw
                case rel => exact ⟨k + 1, m + 1, by omega, by go_num, by omega, Lib.hid (by rw [hst.out, List.length_append, Hm.out]; rfl), Lib.hid (by rw [hst.out, List.map_append]; exact hown5), hb5⟩
                case measure => simp [intOf]; omega
              | false =>
                go_wp2_with fail
                go_roundw
                case rel => exact ⟨k + 1, m, by omega, by go_num, by omega, Lib.hid (by rw [hst.out, Hm.out]; simp), Lib.hid (by rw [hst.out]; simpa using hown4.out), hb⟩
                case measure => simp [intOf]; omega
            | false =>
              cases Y with
              | true =>
                go_wp2_with fail
                go_roundw
                case rel => exact ⟨k + 1, m, by omega, by go_num, by omega, Lib.hid (by rw [hst.out, Hm.out]; simp), Lib.hid (by rw [hst.out]; simpa using hown4.out), hb⟩
                case measure => simp [intOf]; omega
              | false =>
                go_wp2_with fail
                go_roundw
                case rel => exact ⟨k + 1, m, by omega, by go_num, by omega, Lib.hid (by rw [hst.out, Hm.out]; simp), Lib.hid (by rw [hst.out]; simpa using hown4.out), hb⟩
                case measure => simp [intOf]; omega
          | false =>
            cases X with
            | true =>
              cases Y with
              | true =>
                go_wp2_with (first | (at_builtin; refine wpList_append_own _ rfl _ _ 22 rfl w.heap.size 3 j0 (.int .i64 0) 1 8 Try.underlying22 hj0 hy0 hy1 hy2 rfl (by decide) _ m _ rfl (hown4.out.alloc _) ⟨w6.heap.size, 0, none⟩ 1 1 [.int .i64 k] rfl rfl (World.news_of_block (cs := #[.int .i64 k]) (t := 3) (fr := (0, 0)) (heap_alloc_new w6 _)) (by simp [Value.oneCell']) (by unfold maxLen; omega) (by omega) (by simp; omega) ?_; intro v' w5 hown5 hgrow5 hnil5; have hb5 : Below w.heap.size w w5 := (hb.alloc hs _).grown hgrow5 (by simp; omega) (fun q hq => (hown4.out.lt _ hq).1); clear hgrow5 hnil5))
                go_roundw
                case rel => exact ⟨k + 1, m + 1, by omega, by go_num, by omega, Lib.hid (by rw [hst.out, List.length_append, Hm.out]; rfl), Lib.hid (by rw [hst.out, List.map_append]; exact hown5), hb5⟩
                case measure => simp [intOf]; omega
              | false =>
                go_wp2_with fail
                go_roundw
                case rel => exact ⟨k + 1, m, by omega, by go_num, by omega, Lib.hid (by rw [hst.out, Hm.out]; simp), Lib.hid (by rw [hst.out]; simpa using hown4.out), hb⟩
                case measure => simp [intOf]; omega
            | false =>
              cases Y with
              | true =>
                go_wp2_with fail
                go_roundw
                case rel => exact ⟨k + 1, m, by omega, by go_num, by omega, Lib.hid (by rw [hst.out, Hm.out]; simp), Lib.hid (by rw [hst.out]; simpa using hown4.out), hb⟩
                case measure => simp [intOf]; omega
              | false =>
                go_wp2_with fail
                go_roundw
                case rel => exact ⟨k + 1, m, by omega, by go_num, by omega, Lib.hid (by rw [hst.out, Hm.out]; simp), Lib.hid (by rw [hst.out]; simpa using hown4.out), hb⟩
                case measure => simp [intOf]; omega
      · have hkn : k = n := by omega
        have h2 := hown.out
        rw [hkn] at h2
        have h3 : m = (Ve.sw l n).length := by rw [Hm.out, hkn]
        obtain ⟨ao2, cap2, hv, -, hI2⟩ := own_ints h2 h3
        subst hv
        have HI := Lib.hid (And.intro h3 hI2)
        clear h2 h3 hkn hown Hm hI2
        go_wp2_with fail
        go_ret2
        exact ⟨⟨ao2, m, cap2, rfl, by rw [q.out]; exact HI.out.1, by rw [q.out]; exact HI.out.2⟩, hb⟩
  · have hne : (C != 0) = true := by simp [hz]
    have q : Hid (Ve.swc l = []) := Lib.hid (by unfold Ve.swc; rw [if_neg (by rw [← HC.out]; exact hz)])
    go_wp2_with fail
    go_ret2
    exact ⟨⟨none, 0, 0, rfl, by rw [q.out]; rfl, by rw [q.out]; exact ints_none _ _⟩, hA⟩
end Go.Proofs.Ytmdkdkiejcjmaaa
