import Derived.Test.YtkpabehjehbidaaTog
namespace Go.Proofs.Ytkpabehjehbidaa
open Go.RowKit

theorem own_cells {w : World} {base n size : Nat} {e : TypeId} {v : Value} {xs : List Value} (h : w.ownsRow base e size v n xs) (hn : 0 < n) :
    ∃ g cap, v = .slice (some ⟨g, 0, none⟩) n cap ∧ base ≤ g ∧ g < w.heap.size ∧ n ≤ cap ∧ ∀ j u, xs[j]? = some u → w.cell? ⟨g, j, none⟩ = some u := by
  rcases h.2 with ⟨_, h0⟩ | ⟨g, cap, cur, rfl, hb, hg, hnc, hcm, hcs, htk⟩
  · omega
  · refine ⟨g, cap, rfl, hb, heap_lt hg, hnc, fun j u hu => ?_⟩
    rw [cell_of_row w g j _ _ _ hg]
    have hj : j < xs.length := (List.getElem?_eq_some_iff.1 hu).1
    have hl := h.1
    rw [← htk] at hu
    rw [List.getElem?_take, if_pos (by omega)] at hu
    simpa using hu

theorem own_below {w w' : World} {base n size : Nat} {e : TypeId} {v : Value} {xs : List Value} (h : w.ownsRow base e size v n xs) (hb : Below w.heap.size w w') : w'.ownsRow base e size v n xs := by
  refine ⟨h.1, ?_⟩
  rcases h.2 with h0 | ⟨g, cap, cur, rfl, hb0, hg, r⟩
  · exact .inl h0
  · exact .inr ⟨g, cap, cur, rfl, hb0, heap_keep hb hg, r⟩
theorem flat3_at {L : List (Int × Int × Int)} {k : Nat} (hk : k < L.length) :
    (flat3 L)[k * 3]? = some (.int .i64 L[k].1) ∧ (flat3 L)[k * 3 + 1]? = some (.int .i64 L[k].2.1) ∧ (flat3 L)[k * 3 + 2]? = some (.int .i64 L[k].2.2) := by
  induction L generalizing k with
  | nil => simp at hk
  | cons x r ih =>
    cases k with
    | zero => simp [flat3]
    | succ k =>
      have := ih (k := k) (by simpa using hk)
      simp only [flat3, List.flatMap_cons] at this ⊢
      rw [show (k + 1) * 3 = (k * 3) + 3 by omega]
      simpa using this
def flat2 (l : List (Int × Int)) : List Value := l.flatMap fun x => [.int .i64 x.1, .int .i64 x.2]
theorem flat2_app (l m : List (Int × Int)) : flat2 (l ++ m) = flat2 l ++ flat2 m := by simp [flat2]
theorem flat2_at {L : List (Int × Int)} {k : Nat} (hk : k < L.length) :
    (flat2 L)[k * 2]? = some (.int .i64 L[k].1) ∧ (flat2 L)[k * 2 + 1]? = some (.int .i64 L[k].2) := by
  induction L generalizing k with
  | nil => simp at hk
  | cons x r ih =>
    cases k with
    | zero => simp [flat2]
    | succ k =>
      have := ih (k := k) (by simpa using hk)
      simp only [flat2, List.flatMap_cons] at this ⊢
      rw [show (k + 1) * 2 = (k * 2) + 2 by omega]
      simpa using this
theorem flat2_length (L : List (Int × Int)) : (flat2 L).length = L.length * 2 := by
  induction L with
  | nil => rfl
  | cons x r ih => simp only [flat2, List.flatMap_cons, List.length_append, List.length_cons, List.length_nil] at ih ⊢; omega

theorem own_pts2 {w : World} {base n : Nat} {e : TypeId} {v : Value} {L : List (Int × Int)} (h : w.ownsRow base e 2 v n (flat2 L)) (hn : n = L.length) :
    ∃ ao cap, v = .slice ao n cap ∧ n ≤ cap ∧ Pts w ao L := by
  by_cases h0 : 0 < n
  · obtain ⟨g, cap, rfl, hb, hlt, hnc, hc⟩ := own_cells h h0
    refine ⟨_, cap, rfl, hnc, ⟨fun _ => ⟨g, 0, rfl, hlt, fun i hi => ?_⟩⟩⟩
    have := flat2_at hi
    rw [Nat.zero_add]
    rw [List.getD_eq_getElem?_getD, List.getElem?_eq_getElem hi]
    exact ⟨hc _ _ this.1, hc _ _ this.2⟩
  · have hn0 : n = 0 := by omega
    rcases h.2 with ⟨rfl, _⟩ | ⟨g, cap, cur, rfl, _, _, hnc, _⟩
    · exact ⟨none, 0, by rw [hn0], by omega, ⟨fun hl => by omega⟩⟩
    · exact ⟨_, cap, rfl, hnc, ⟨fun hl => by omega⟩⟩

theorem infoFrAll2 : (Try.prog.info? 70).map (fun i => (i.zero, i.size, i.bytes)) = some (some (.agg #[.int .i64 0, .int .i64 0]), 2, 16) := by kernel_rfl
theorem info_fr : ∃ i, Try.prog.info? 70 = some i ∧ i.zero = some (.agg #[.int .i64 0, .int .i64 0]) ∧ i.size = 2 ∧ i.bytes = 16 := by
  have h := infoFrAll2
  cases hi : Try.prog.info? 70 with
  | none => rw [hi] at h; cases h
  | some i =>
    rw [hi] at h
    simp only [Option.map_some, Option.some.injEq, Prod.mk.injEq] at h
    exact ⟨i, rfl, h.1, h.2.1, h.2.2⟩

theorem strips_at {l : List (Int × Int)} {k : Nat} {s : Int} (hk : k < l.length) :
    (Fl.strips s l)[k]'(by rw [strips_length]; exact hk) = (s + Fl.len (l.take k), s + Fl.len (l.take k) + (l.getD k (0, 0)).1, (l.getD k (0, 0)).2) := by
  have h := strips_take (s := s) hk
  have hl : k < (Fl.strips s l).length := by rw [strips_length]; exact hk
  rw [List.take_succ_eq_append_getElem hl] at h
  have := List.append_cancel_left h
  simpa using this
theorem pieces_take {l : List (Int × Int)} {a b : Rat} {k : Nat} (hk : k < l.length) :
    ((Fl.strips 0 l).map fun x => Fl.piece x a b).take (k + 1) = ((Fl.strips 0 l).map fun x => Fl.piece x a b).take k ++ [Fl.piece (Fl.len (l.take k), Fl.len (l.take k) + (l.getD k (0, 0)).1, (l.getD k (0, 0)).2) a b] := by
  rw [← List.map_take, ← List.map_take, strips_take hk, List.map_append, Int.zero_add]
  rfl

set_option maxRecDepth 100000 in
set_option maxHeartbeats 4000000 in
theorem worth_any (l : List (Int × Int)) (a b : Rat) (ao : Option Addr) (n cap : Nat) (w : World) (hp : Pts w ao l) (hln : n = l.length) (hok : Fl.Ok l) (h1 : 1 ≤ l.length) (h6 : l.length ≤ 6) (hab : PlaceOk a b) :
    Calls Try.prog 63 #[.slice ao n cap, Fr a, Fr b] w fun e w' => e = .returned (Fr (Fl.worth l a b)) ∧ Below w.heap.size w w' := by
  have Hn := Lib.hid hln
  have hn6 : n ≤ 6 := by omega
  have hn1 : 1 ≤ n := by omega
  obtain ⟨i0, hi0, hz0, hz1, hz2⟩ := info_fr
  clear hln
  have hadds := (Fl.worth_adds hab.d hok h6).1
  have Hadds := Lib.hid hadds
  clear hadds
  have hA := below_alloc3 w (.cells #[.int .i64 a.num, .int .i64 a.den] 70) (.cells #[.int .i64 b.num, .int .i64 b.den] 70) (.cells #[.int .i64 0, .int .i64 0] 70)
  have hpA := hp.below hA
  have ra : (((w.alloc (.cells #[.int .i64 a.num, .int .i64 a.den] 70)).alloc (.cells #[.int .i64 b.num, .int .i64 b.den] 70)).alloc (.cells #[.int .i64 0, .int .i64 0] 70)).heap[w.heap.size]? = _ := (heap_alloc_old _ _ (by simp; try omega)).trans (heap_alloc2_old w _ _)
  have rb : (((w.alloc (.cells #[.int .i64 a.num, .int .i64 a.den] 70)).alloc (.cells #[.int .i64 b.num, .int .i64 b.den] 70)).alloc (.cells #[.int .i64 0, .int .i64 0] 70)).heap[w.heap.size + 1]? = _ := (heap_alloc_old _ _ (by simp; try omega)).trans (heap_alloc2_new w _ _)
  have rr := heap_alloc3 w (.cells #[.int .i64 a.num, .int .i64 a.den] 70) (.cells #[.int .i64 b.num, .int .i64 b.den] 70) (.cells #[.int .i64 0, .int .i64 0] 70)
  have HA := Lib.hid (And.intro hA (And.intro ra (And.intro rb rr)))
  clear hA hp ra rb rr
  go_enter Try.func63, Try.ntmps63
  go_wp2_with fail
  refine (strips_any l _ _ _ _ hpA Hn.out hok h6).mono ?_
  rintro e w2 ⟨v, rfl, hov, hb2⟩
  have hB2 := HA.out.1.trans (hb2.mono HA.out.1.size)
  have ra := heap_keep hb2 HA.out.2.1
  have rb := heap_keep hb2 HA.out.2.2.1
  have rr := heap_keep hb2 HA.out.2.2.2
  clear hb2 HA hpA
  obtain ⟨g, cap2, rfl, hgb, hgl, hgc, hcells⟩ := own_cells hov h1
  clear hov
  have Hc := Lib.hid hcells
  clear hcells
  rw [← Hn.out] at hgc ⊢
  have hsz : w.heap.size + 3 ≤ w2.heap.size := by simp at hgb; omega
  clear hgb
  go_wp2_with fail
  go_loopw [7, 13] (fun v i wr => ∃ k : Nat, k ≤ n ∧ i = .int .i64 k ∧ Hid (wr.ownsRow w2.heap.size 70 2 v k (flat2 ((((Fl.strips 0 l).map fun x => Fl.piece x a b).take k).map pr))) ∧ Below w2.heap.size w2 wr) (fun _ i _ => n - (intOf i).toNat)
  case atStart => exact ⟨0, Nat.zero_le _, rfl, Lib.hid ⟨rfl, .inl ⟨rfl, rfl⟩⟩, Below.refl _ _⟩
  case round =>
    obtain ⟨k, hk, rfl, hown, hb⟩ := hrel
    by_cases hlt : k < n
    · have hkl : k < l.length := by have := Hn.out; omega
      have hks : k < (Fl.strips 0 l).length := by rw [strips_length]; exact hkl
      obtain ⟨q0, q1, q2⟩ := flat3_at hks
      have z0 := (hb.cell (p := ⟨g, k * 3, none⟩) hgl).trans (Hc.out _ _ q0)
      have z1 := (hb.cell (p := ⟨g, k * 3 + 1, none⟩) hgl).trans (Hc.out _ _ q1)
      have z2 := (hb.cell (p := ⟨g, k * 3 + 2, none⟩) hgl).trans (Hc.out _ _ q2)
      rw [strips_at hkl, Int.zero_add] at z0 z1 z2
      have hst := Lib.hid (pieces_take (a := a) (b := b) hkl)
      have b1 := len_take_bound hok h6 k
      have b2 := ok_at hok hkl
      clear q0 q1 q2
      have i1 : (k : Int) < (n : Int) := by omega
      obtain ⟨A, hA⟩ : ∃ x, x = Fl.len (l.take k) := ⟨_, rfl⟩
      obtain ⟨x, hx⟩ : ∃ x, x = (l.getD k (0, 0)).1 := ⟨_, rfl⟩
      obtain ⟨y, hy⟩ : ∃ y, y = (l.getD k (0, 0)).2 := ⟨_, rfl⟩
      rw [← hA] at z0 z1 hst b1
      rw [← hx] at z1 hst b2
      rw [← hy] at z2 hst b2
      simp only at z0 z1 z2
      clear hx hy hA
      have hs := hb.size
      have hga : g < wr.heap.size := by omega
      have Ra := heap_keep (W := w2) (W' := wr) hb ra
      have Rb := heap_keep (W := w2) (W' := wr) hb rb
      have la := heap_lt Ra
      have lb := heap_lt Rb
      obtain ⟨⟨c0, c1⟩, -, -⟩ := row_fr Ra
      obtain ⟨⟨d0, d1⟩, -, -⟩ := row_fr Rb
      clear Ra Rb
      go_wp2_with fail
      refine (strip_any A (A + x) y a b _ hab (by omega) (by omega) (by omega) (by omega) (by omega)).mono ?_
      rintro e w4 ⟨rfl, hb4⟩
      obtain ⟨P, hP⟩ : ∃ p, p = Fl.piece (A, A + x, y) a b := ⟨_, rfl⟩
      rw [← hP] at hst ⊢
      clear hP
      have hown4 : Hid (w4.ownsRow w2.heap.size 70 2 u7 k (flat2 ((((Fl.strips 0 l).map fun x => Fl.piece x a b).take k).map pr))) := Lib.hid (own_below (hown.out.alloc _) hb4)
      have hbb := hb.alloc hs (.cells #[.int .i64 A, .int .i64 (A + x), .int .i64 y] 103)
      have hB4 := hbb.trans (hb4.mono hbb.size)
      have hs4 := hB4.size
      clear hbb hb4 hown z0 z1 z2 c0 c1 d0 d1 la lb
      go_wp2_with (first | (at_builtin; refine wpList_append_own _ rfl _ _ 86 rfl w2.heap.size 70 i0 (.agg #[.int .i64 0, .int .i64 0]) 2 16 Try.underlying86 hi0 hz0 hz1 hz2 rfl (by decide) _ k _ rfl (hown4.out.alloc _) ⟨w4.heap.size, 0, none⟩ 1 1 [.int .i64 P.num, .int .i64 P.den] rfl rfl (World.news_of_block (cs := #[.int .i64 P.num, .int .i64 P.den]) (t := 70) (fr := (0, 0)) (heap_alloc_new w4 _)) (by simp [Value.oneCell']) (by unfold maxLen; omega) (by omega) (by simp; omega) ?_; intro v' w3 hown3 hgrow3 hnil3; have hb5 : Below w2.heap.size w2 w3 := (hB4.alloc hs4 _).grown hgrow3 (by simp; omega) (fun q hq => (hown4.out.lt _ hq).1); clear hgrow3 hnil3))
      go_roundw
      case rel =>
        refine ⟨k + 1, by omega, by go_num, Lib.hid ?_, hb5⟩
        rw [hst.out, List.map_append, flat2_app]
        exact hown3
      case measure => simp [intOf]; omega
    · have hk2 : k = n := by omega
      have Hk := Lib.hid hk2
      clear hk2
      have hL : ((Fl.strips 0 l).map fun x => Fl.piece x a b).length = n := by rw [List.length_map, strips_length, Hn.out]
      have ho := hown.out
      rw [Hk.out, ← hL, List.take_length] at ho
      obtain ⟨ao2, cap3, hv, hnc, hpts⟩ := own_pts2 ho (by simp)
      have HL := Lib.hid hL
      rw [hL] at hv hnc
      clear hL ho hown hk
      subst hv
      have Rr := heap_keep (W := w2) (W' := wr) hb rr
      have hBw := hB2.trans (hb.mono (by omega))
      go_wp2_with fail
      refine (together_any _ ao2 n cap3 _ hpts HL.out.symm (by omega) Hadds.out).mono ?_
      rintro e w6 ⟨rfl, hb6⟩
      have Rr6 := heap_keep hb6 Rr
      have hB6 := hBw.trans (hb6.mono hBw.size)
      clear hb6
      obtain ⟨⟨d0, d1⟩, f0, f1⟩ := row_fr Rr6
      obtain ⟨S, hS⟩ : ∃ p, p = Fl.worth l a b := ⟨_, rfl⟩
      have hS' : Fl.sumR ((Fl.strips 0 l).map fun x => Fl.piece x a b) = S := hS.symm
      rw [hS']
      have HS := Lib.hid hS
      clear hS hS'
      go_wp2
      rw [← HS.out]
      exact bodyPost_ret (results_cell_row rfl _ _ _ _ _ _ _ rfl (two_cells Rr6 (.int .i64 S.num) (.int .i64 S.den)) Try.underlying70 rfl infoFr2) rfl ⟨rfl, below_setCell (below_setCell hB6 (by omega) _) (by omega) _⟩
end Go.Proofs.Ytkpabehjehbidaa
