import Derived.Test.YteecfdjphjkdkaaFl
namespace Go.Proofs.Yteecfdjphjkdkaa
open Go.RowKit
set_option maxRecDepth 100000 in
set_option maxHeartbeats 4000000 in
theorem awb1_any (L : List Int) (E : Int) (ao : Option Addr) (n cap : Nat) (w : World) (hI : Ints w ao L) (hln : n = L.length) (hok : Cl.okC L = true) (h0 : 0 ≤ E) (h1 : E ≤ Fl.sumI L) :
    Calls Try.prog 53 #[.int .i64 1, .slice ao n cap, .int .i64 E] w fun e w' => ∃ q v, (∃ a d, Cl.LevS L (E) a d ∧ q = mkRat a d.toNat) ∧ e = .returned (.tuple #[v, .int .i64 0]) ∧ w'.ownsRow w.heap.size 35 2 v n (flat2 ((L.map fun c => mkRat (min (c * q.den) q.num) q.den).map pr)) ∧ Below w.heap.size w w' := by
  obtain ⟨i0, hi0, hz0, hz1, hz2⟩ := info_rt
  have HI0 := Lib.hid hI
  have Hn := Lib.hid hln
  have HC := Lib.hid (Cl.okC_iff.1 hok)
  have Hok := Lib.hid hok
  have HE := Lib.hid (And.intro h0 h1)
  have hcase : Cl.caseC L E = 0 := Cl.caseC_ok.2 ⟨hok, h0, h1⟩
  have hn8 : n ≤ 8 := by have := HC.out; omega
  clear hln hok h0 h1
  go_enter Try.func53, Try.ntmps53
  go_wp2_with fail
  refine (validate_any L E ao n cap w hI Hn.out (by omega)).mono ?_
  rintro e w1 ⟨rfl, hb1⟩
  rw [hcase]
  clear hcase
  replace hI := hI.below hb1
  go_wp2_with fail
  refine (rules_any w1).mono ?_
  rintro e w2 ⟨rfl, hg2, hb2⟩
  replace hI := hI.below hb2
  have d0 := cell_of_row w2 _ 2 _ _ _ hg2
  have d1 := cell_of_row w2 _ 3 _ _ _ hg2
  replace d0 := d0.trans (show Cl.tab[2]? = some (.func (.func 65) #[] #[]) from rfl)
  replace d1 := d1.trans (show Cl.tab[3]? = some (.func (.func 86) #[] #[]) from rfl)
  have hB := hb1.trans (hb2.mono hb1.size)
  have hs1 := heap_lt hg2
  generalize w1.heap.size = G1 at d0 d1 hs1 ⊢
  clear hb1 hb2 hg2
  obtain ⟨⟨n0, n1⟩, f0, f1⟩ := row_fr (heap_alloc_new w2 (.cells #[.nilFunc, .nilFunc] 73))
  obtain ⟨Wn, hWn⟩ : ∃ W, W = w2.alloc (.cells #[.nilFunc, .nilFunc] 73) := ⟨_, rfl⟩
  rw [← hWn] at n0 n1 f0 f1
  obtain ⟨G9, hG9⟩ : ∃ G, G = w2.heap.size := ⟨_, rfl⟩
  rw [← hG9] at n0 n1 f0 f1
  go_wp2_with (first | (rw [← hWn, ← hG9]) | fail)
  have r9 := heap_alloc_new w2 (.cells #[.func (.func 65) #[] #[], .func (.func 86) #[] #[]] 73)
  have hBn : Below w.heap.size w (w2.alloc (.cells #[.func (.func 65) #[] #[], .func (.func 86) #[] #[]] 73)) := hB.alloc hB.size _
  replace hI := hI.below ((Below.refl _ w2).alloc (Nat.le_refl _) (.cells #[.func (.func 65) #[] #[], .func (.func 86) #[] #[]] 73))
  clear n0 n1 f0 f1 hWn
  subst hG9
  have hGw := hB.size
  clear d0 d1 hs1 hB
  generalize w2.alloc (.cells #[.func (.func 65) #[] #[], .func (.func 86) #[] #[]] 73) = W3 at r9 hBn hI ⊢
  generalize w2.heap.size = G9 at r9 hGw ⊢
  refine (level_i L E ao n cap W3 hI Hn.out Hok.out (by have := HE.out; omega) (by have := HE.out; omega)).mono ?_
  rintro e w4 ⟨a, d, hL, rfl, hb4⟩
  obtain ⟨q, hq⟩ : ∃ q, q = mkRat a d.toNat := ⟨_, rfl⟩
  rw [← hq]
  have HQ := Lib.hid (And.intro hL hq)
  have hqb := Cl.levS_q hL; rw [← hq] at hqb; have hqb2 := And.intro hqb.2.2.1 (And.intro hqb.1 hqb.2.1); clear hqb hL hq
  have Hqb := Lib.hid hqb2
  clear hqb2
  rw [show Fr q = .agg #[.int .i64 q.num, .int .i64 q.den] from rfl]
  replace r9 := heap_keep hb4 r9
  replace hI := hI.below hb4
  replace hBn := hBn.trans (hb4.mono hBn.size)
  clear hb4
  obtain ⟨⟨c0, c1⟩, -, -⟩ := row_fr r9
  go_wp2_with fail
  have hlG := heap_lt r9
  have rq := heap_alloc_new w4 (.cells #[.int .i64 q.num, .int .i64 q.den] 35)
  replace r9 := heap_keep ((Below.refl _ w4).alloc (Nat.le_refl _) (.cells #[.int .i64 q.num, .int .i64 q.den] 35)) r9
  replace hI := hI.below ((Below.refl _ w4).alloc (Nat.le_refl _) (.cells #[.int .i64 q.num, .int .i64 q.den] 35))
  have hBq : Below w.heap.size w (w4.alloc (.cells #[.int .i64 q.num, .int .i64 q.den] 35)) := hBn.alloc hBn.size _
  have hGw2 := hBn.size
  clear c0 c1 hBn
  have hs5 : w4.heap.size + 1 ≤ (w4.alloc (.cells #[.int .i64 q.num, .int .i64 q.den] 35)).heap.size := by simp
  generalize w4.alloc (.cells #[.int .i64 q.num, .int .i64 q.den] 35) = w5 at rq r9 hI hBq hs5 ⊢
  generalize w4.heap.size = G at rq hlG hGw2 hs5 ⊢
  go_loopw [11, 13, 31] (fun v _ i wr => ∃ k : Nat, k ≤ n ∧ i = .int .i64 k ∧ Hid (wr.ownsRow (G + 1) 35 2 v k (flat2 (((L.take k).map fun c => mkRat (min (c * q.den) q.num) q.den).map pr))) ∧ wr.heap[G9]? = some (.cells #[.func (.func 65) #[] #[], .func (.func 86) #[] #[]] 73 (0, 0)) ∧ wr.heap[G]? = some (.cells #[.int .i64 q.num, .int .i64 q.den] 35 (0, 0)) ∧ Ints wr ao L ∧ Below w.heap.size w wr ∧ G + 1 ≤ wr.heap.size) (fun _ _ i _ => n - (intOf i).toNat)
  case atStart => exact ⟨0, Nat.zero_le _, rfl, Lib.hid ⟨rfl, .inl ⟨rfl, rfl⟩⟩, r9, rq, hI, hBq, hs5⟩
  case round =>
    clear r9 rq hI hBq hs5
    obtain ⟨k, hk, rfl, hown, r9, rq, hI, hB, hs5⟩ := hrel
    by_cases hlt : k < n
    · have hkl : k < L.length := by have := Hn.out; omega
      obtain ⟨b, off, rfl, hbs, hcx⟩ := hI.at hkl
      obtain ⟨x, hx⟩ : ∃ x, x = L.getD k 0 := ⟨_, rfl⟩
      have hxb : 0 ≤ x ∧ x ≤ 1000 := HC.out.2.2 x (by rw [hx, List.getD_eq_getElem?_getD, List.getElem?_eq_getElem hkl]; simp)
      have hxe : x = L[k] := by rw [hx, List.getD_eq_getElem?_getD, List.getElem?_eq_getElem hkl]; rfl
      rw [← hx] at hcx
      have Hx := Lib.hid hxe
      clear hx hxe
      have i1 : (k : Int) < (n : Int) := by omega
      obtain ⟨⟨c0, c1⟩, -, -⟩ := row_fr r9
      obtain ⟨⟨c2, c3⟩, -, -⟩ := row_fr rq
      go_wp2_with fail
      refine (clo2_any x q wr hxb (by have := Hqb.out; omega) (by have := Hqb.out; omega)).mono ?_
      rintro e wc ⟨rfl, hbb⟩
      obtain ⟨V, hV⟩ : ∃ V, V = mkRat (min (x * q.den) q.num) q.den := ⟨_, rfl⟩
      rw [← hV]
      have hst : Hid (((L.take (k + 1)).map fun c => mkRat (min (c * q.den) q.num) q.den).map pr = (((L.take k).map fun c => mkRat (min (c * q.den) q.num) q.den).map pr) ++ [pr V]) := Lib.hid (by
        rw [List.take_succ_eq_append_getElem hkl, List.map_append, List.map_append, ← Hx.out, hV]
        rfl)
      clear hV
      rw [show Fr V = .agg #[.int .i64 V.num, .int .i64 V.den] from rfl]
      clear c0 c1 c2 c3 hcx hbs
      replace r9 := heap_keep hbb r9
      replace rq := heap_keep hbb rq
      replace hI := hI.below hbb
      replace hB := hB.trans (hbb.mono hB.size)
      replace hown := Lib.hid (own_below hown.out hbb)
      have hsc : G + 1 ≤ wc.heap.size := by have := hbb.size; omega
      clear hbb hs5
      go_wp2_with (first | (at_builtin; refine wpList_append_own _ rfl _ _ 27 rfl (G + 1) 35 i0 (.agg #[.int .i64 0, .int .i64 0]) 2 16 Try.underlying27 hi0 hz0 hz1 hz2 rfl (by decide) _ k _ rfl (hown.out.alloc _) ⟨wc.heap.size, 0, none⟩ 1 1 [.int .i64 V.num, .int .i64 V.den] rfl rfl (World.news_of_block (cs := #[.int .i64 V.num, .int .i64 V.den]) (t := 35) (fr := (0, 0)) (heap_alloc_new wc _)) (by simp [Value.oneCell']) (by unfold maxLen; omega) (by omega) (by simp; omega) ?_; intro v' w3 hown3 hgrow3 hnil3; have hb5 : Below w.heap.size w w3 := (hB.alloc hB.size _).grown hgrow3 (by have := hB.size; simp; omega) (fun q hq => by have := (hown.out.lt _ hq).1; omega); have hb9 : Below (G + 1) (wc.alloc (.cells #[.int .i64 V.num, .int .i64 V.den] 35)) w3 := (Below.refl _ _).grown hgrow3 (by simp; omega) (fun q hq => (hown.out.lt _ hq).1); clear hgrow3 hnil3))
      have hs3 : G + 1 ≤ w3.heap.size := by have := hb9.size; simp at this; omega
      have r93 := (hb9.block G9 (by omega)).trans ((heap_alloc_old _ _ (by omega)).trans r9)
      have rq3 := (hb9.block G (by omega)).trans ((heap_alloc_old _ _ (by omega)).trans rq)
      go_roundw
      case rel => exact ⟨k + 1, by omega, by go_num, Lib.hid (by rw [hst.out, flat2_app]; exact hown3), r93, rq3, HI0.out.below hb5, hb5, hs3⟩
      case measure => simp [intOf]; omega
    · have hkn : k = n := by omega
      have Ho : Hid (wr.ownsRow w.heap.size 35 2 u11 n (flat2 ((L.map fun c => mkRat (min (c * q.den) q.num) q.den).map pr))) := Lib.hid (by
        have h := own_mono hown.out (show w.heap.size ≤ G + 1 by omega)
        rw [hkn, Hn.out, List.take_length] at h
        rw [Hn.out]
        exact h)
      clear hkn
      go_wp2
      go_ret2
      exact ⟨q, _, ⟨a, d, HQ.out⟩, rfl, Ho.out, hB⟩
set_option maxRecDepth 100000 in
set_option maxHeartbeats 4000000 in
theorem awb2_any (L : List Int) (E : Int) (ao : Option Addr) (n cap : Nat) (w : World) (hI : Ints w ao L) (hln : n = L.length) (hok : Cl.okC L = true) (h0 : 0 ≤ E) (h1 : E ≤ Fl.sumI L) :
    Calls Try.prog 53 #[.int .i64 2, .slice ao n cap, .int .i64 E] w fun e w' => ∃ q v, (∃ a d, Cl.LevS L (Fl.sumI L - E) a d ∧ q = mkRat a d.toNat) ∧ e = .returned (.tuple #[v, .int .i64 0]) ∧ w'.ownsRow w.heap.size 35 2 v n (flat2 ((L.map fun c => mkRat (max 0 (c * q.den - q.num)) q.den).map pr)) ∧ Below w.heap.size w w' := by
  obtain ⟨i0, hi0, hz0, hz1, hz2⟩ := info_rt
  have HI0 := Lib.hid hI
  have Hn := Lib.hid hln
  have HC := Lib.hid (Cl.okC_iff.1 hok)
  have Hok := Lib.hid hok
  have HE := Lib.hid (And.intro h0 h1)
  have hcase : Cl.caseC L E = 0 := Cl.caseC_ok.2 ⟨hok, h0, h1⟩
  have hn8 : n ≤ 8 := by have := HC.out; omega
  clear hln hok h0 h1
  go_enter Try.func53, Try.ntmps53
  go_wp2_with fail
  refine (validate_any L E ao n cap w hI Hn.out (by omega)).mono ?_
  rintro e w1 ⟨rfl, hb1⟩
  rw [hcase]
  clear hcase
  replace hI := hI.below hb1
  go_wp2_with fail
  refine (rules_any w1).mono ?_
  rintro e w2 ⟨rfl, hg2, hb2⟩
  replace hI := hI.below hb2
  have d0 := cell_of_row w2 _ 4 _ _ _ hg2
  have d1 := cell_of_row w2 _ 5 _ _ _ hg2
  replace d0 := d0.trans (show Cl.tab[4]? = some (.func (.func 66) #[] #[]) from rfl)
  replace d1 := d1.trans (show Cl.tab[5]? = some (.func (.func 88) #[] #[]) from rfl)
  have hB := hb1.trans (hb2.mono hb1.size)
  have hs1 := heap_lt hg2
  generalize w1.heap.size = G1 at d0 d1 hs1 ⊢
  clear hb1 hb2 hg2
  obtain ⟨⟨n0, n1⟩, f0, f1⟩ := row_fr (heap_alloc_new w2 (.cells #[.nilFunc, .nilFunc] 73))
  obtain ⟨Wn, hWn⟩ : ∃ W, W = w2.alloc (.cells #[.nilFunc, .nilFunc] 73) := ⟨_, rfl⟩
  rw [← hWn] at n0 n1 f0 f1
  obtain ⟨G9, hG9⟩ : ∃ G, G = w2.heap.size := ⟨_, rfl⟩
  rw [← hG9] at n0 n1 f0 f1
  go_wp2_with (first | (rw [← hWn, ← hG9]) | fail)
  have r9 := heap_alloc_new w2 (.cells #[.func (.func 66) #[] #[], .func (.func 88) #[] #[]] 73)
  have hBn : Below w.heap.size w (w2.alloc (.cells #[.func (.func 66) #[] #[], .func (.func 88) #[] #[]] 73)) := hB.alloc hB.size _
  replace hI := hI.below ((Below.refl _ w2).alloc (Nat.le_refl _) (.cells #[.func (.func 66) #[] #[], .func (.func 88) #[] #[]] 73))
  clear n0 n1 f0 f1 hWn
  subst hG9
  have hGw := hB.size
  clear d0 d1 hs1 hB
  generalize w2.alloc (.cells #[.func (.func 66) #[] #[], .func (.func 88) #[] #[]] 73) = W3 at r9 hBn hI ⊢
  generalize w2.heap.size = G9 at r9 hGw ⊢
  refine (loss_any L E ao n cap W3 hI Hn.out Hok.out (by have := HE.out; omega) (by have := HE.out; omega)).mono ?_
  rintro e w4 ⟨a, d, hL, rfl, hb4⟩
  obtain ⟨q, hq⟩ : ∃ q, q = mkRat a d.toNat := ⟨_, rfl⟩
  rw [← hq]
  have HQ := Lib.hid (And.intro hL hq)
  have hqb := Cl.levS_q hL; rw [← hq] at hqb; have hqb2 := And.intro hqb.2.2.1 (And.intro hqb.1 hqb.2.1); clear hqb hL hq
  have Hqb := Lib.hid hqb2
  clear hqb2
  rw [show Fr q = .agg #[.int .i64 q.num, .int .i64 q.den] from rfl]
  replace r9 := heap_keep hb4 r9
  replace hI := hI.below hb4
  replace hBn := hBn.trans (hb4.mono hBn.size)
  clear hb4
  obtain ⟨⟨c0, c1⟩, -, -⟩ := row_fr r9
  go_wp2_with fail
  have hlG := heap_lt r9
  have rq := heap_alloc_new w4 (.cells #[.int .i64 q.num, .int .i64 q.den] 35)
  replace r9 := heap_keep ((Below.refl _ w4).alloc (Nat.le_refl _) (.cells #[.int .i64 q.num, .int .i64 q.den] 35)) r9
  replace hI := hI.below ((Below.refl _ w4).alloc (Nat.le_refl _) (.cells #[.int .i64 q.num, .int .i64 q.den] 35))
  have hBq : Below w.heap.size w (w4.alloc (.cells #[.int .i64 q.num, .int .i64 q.den] 35)) := hBn.alloc hBn.size _
  have hGw2 := hBn.size
  clear c0 c1 hBn
  have hs5 : w4.heap.size + 1 ≤ (w4.alloc (.cells #[.int .i64 q.num, .int .i64 q.den] 35)).heap.size := by simp
  generalize w4.alloc (.cells #[.int .i64 q.num, .int .i64 q.den] 35) = w5 at rq r9 hI hBq hs5 ⊢
  generalize w4.heap.size = G at rq hlG hGw2 hs5 ⊢
  go_loopw [11, 13, 31] (fun v _ i wr => ∃ k : Nat, k ≤ n ∧ i = .int .i64 k ∧ Hid (wr.ownsRow (G + 1) 35 2 v k (flat2 (((L.take k).map fun c => mkRat (max 0 (c * q.den - q.num)) q.den).map pr))) ∧ wr.heap[G9]? = some (.cells #[.func (.func 66) #[] #[], .func (.func 88) #[] #[]] 73 (0, 0)) ∧ wr.heap[G]? = some (.cells #[.int .i64 q.num, .int .i64 q.den] 35 (0, 0)) ∧ Ints wr ao L ∧ Below w.heap.size w wr ∧ G + 1 ≤ wr.heap.size) (fun _ _ i _ => n - (intOf i).toNat)
  case atStart => exact ⟨0, Nat.zero_le _, rfl, Lib.hid ⟨rfl, .inl ⟨rfl, rfl⟩⟩, r9, rq, hI, hBq, hs5⟩
  case round =>
    clear r9 rq hI hBq hs5
    obtain ⟨k, hk, rfl, hown, r9, rq, hI, hB, hs5⟩ := hrel
    by_cases hlt : k < n
    · have hkl : k < L.length := by have := Hn.out; omega
      obtain ⟨b, off, rfl, hbs, hcx⟩ := hI.at hkl
      obtain ⟨x, hx⟩ : ∃ x, x = L.getD k 0 := ⟨_, rfl⟩
      have hxb : 0 ≤ x ∧ x ≤ 1000 := HC.out.2.2 x (by rw [hx, List.getD_eq_getElem?_getD, List.getElem?_eq_getElem hkl]; simp)
      have hxe : x = L[k] := by rw [hx, List.getD_eq_getElem?_getD, List.getElem?_eq_getElem hkl]; rfl
      rw [← hx] at hcx
      have Hx := Lib.hid hxe
      clear hx hxe
      have i1 : (k : Int) < (n : Int) := by omega
      obtain ⟨⟨c0, c1⟩, -, -⟩ := row_fr r9
      obtain ⟨⟨c2, c3⟩, -, -⟩ := row_fr rq
      go_wp2_with fail
      refine (clo3_any x q wr hxb (by have := Hqb.out; omega) (by have := Hqb.out; omega)).mono ?_
      rintro e wc ⟨rfl, hbb⟩
      obtain ⟨V, hV⟩ : ∃ V, V = mkRat (max 0 (x * q.den - q.num)) q.den := ⟨_, rfl⟩
      rw [← hV]
      have hst : Hid (((L.take (k + 1)).map fun c => mkRat (max 0 (c * q.den - q.num)) q.den).map pr = (((L.take k).map fun c => mkRat (max 0 (c * q.den - q.num)) q.den).map pr) ++ [pr V]) := Lib.hid (by
        rw [List.take_succ_eq_append_getElem hkl, List.map_append, List.map_append, ← Hx.out, hV]
        rfl)
      clear hV
      rw [show Fr V = .agg #[.int .i64 V.num, .int .i64 V.den] from rfl]
      clear c0 c1 c2 c3 hcx hbs
      replace r9 := heap_keep hbb r9
      replace rq := heap_keep hbb rq
      replace hI := hI.below hbb
      replace hB := hB.trans (hbb.mono hB.size)
      replace hown := Lib.hid (own_below hown.out hbb)
      have hsc : G + 1 ≤ wc.heap.size := by have := hbb.size; omega
      clear hbb hs5
      go_wp2_with (first | (at_builtin; refine wpList_append_own _ rfl _ _ 27 rfl (G + 1) 35 i0 (.agg #[.int .i64 0, .int .i64 0]) 2 16 Try.underlying27 hi0 hz0 hz1 hz2 rfl (by decide) _ k _ rfl (hown.out.alloc _) ⟨wc.heap.size, 0, none⟩ 1 1 [.int .i64 V.num, .int .i64 V.den] rfl rfl (World.news_of_block (cs := #[.int .i64 V.num, .int .i64 V.den]) (t := 35) (fr := (0, 0)) (heap_alloc_new wc _)) (by simp [Value.oneCell']) (by unfold maxLen; omega) (by omega) (by simp; omega) ?_; intro v' w3 hown3 hgrow3 hnil3; have hb5 : Below w.heap.size w w3 := (hB.alloc hB.size _).grown hgrow3 (by have := hB.size; simp; omega) (fun q hq => by have := (hown.out.lt _ hq).1; omega); have hb9 : Below (G + 1) (wc.alloc (.cells #[.int .i64 V.num, .int .i64 V.den] 35)) w3 := (Below.refl _ _).grown hgrow3 (by simp; omega) (fun q hq => (hown.out.lt _ hq).1); clear hgrow3 hnil3))
      have hs3 : G + 1 ≤ w3.heap.size := by have := hb9.size; simp at this; omega
      have r93 := (hb9.block G9 (by omega)).trans ((heap_alloc_old _ _ (by omega)).trans r9)
      have rq3 := (hb9.block G (by omega)).trans ((heap_alloc_old _ _ (by omega)).trans rq)
      go_roundw
      case rel => exact ⟨k + 1, by omega, by go_num, Lib.hid (by rw [hst.out, flat2_app]; exact hown3), r93, rq3, HI0.out.below hb5, hb5, hs3⟩
      case measure => simp [intOf]; omega
    · have hkn : k = n := by omega
      have Ho : Hid (wr.ownsRow w.heap.size 35 2 u11 n (flat2 ((L.map fun c => mkRat (max 0 (c * q.den - q.num)) q.den).map pr))) := Lib.hid (by
        have h := own_mono hown.out (show w.heap.size ≤ G + 1 by omega)
        rw [hkn, Hn.out, List.take_length] at h
        rw [Hn.out]
        exact h)
      clear hkn
      go_wp2
      go_ret2
      exact ⟨q, _, ⟨a, d, HQ.out⟩, rfl, Ho.out, hB⟩
set_option maxRecDepth 100000 in
set_option maxHeartbeats 4000000 in
theorem awb3_any (L : List Int) (E : Int) (ao : Option Addr) (n cap : Nat) (w : World) (hI : Ints w ao L) (hln : n = L.length) (hok : Cl.okC L = true) (h0 : 0 ≤ E) (h1 : 2 * E ≤ Fl.sumI L) :
    Calls Try.prog 53 #[.int .i64 3, .slice ao n cap, .int .i64 E] w fun e w' => ∃ q v, (∃ a d, Cl.LevS L (2 * E) a d ∧ q = mkRat a d.toNat) ∧ e = .returned (.tuple #[v, .int .i64 0]) ∧ w'.ownsRow w.heap.size 35 2 v n (flat2 ((L.map fun c => mkRat (min (c * q.den) q.num) (2 * q.den)).map pr)) ∧ Below w.heap.size w w' := by
  obtain ⟨i0, hi0, hz0, hz1, hz2⟩ := info_rt
  have HI0 := Lib.hid hI
  have Hn := Lib.hid hln
  have HC := Lib.hid (Cl.okC_iff.1 hok)
  have Hok := Lib.hid hok
  have HE := Lib.hid (And.intro h0 h1)
  have hcase : Cl.caseC L E = 0 := Cl.caseC_ok.2 ⟨hok, by omega, by omega⟩
  have hn8 : n ≤ 8 := by have := HC.out; omega
  clear hln hok h0 h1
  go_enter Try.func53, Try.ntmps53
  go_wp2_with fail
  refine (validate_any L E ao n cap w hI Hn.out (by omega)).mono ?_
  rintro e w1 ⟨rfl, hb1⟩
  rw [hcase]
  clear hcase
  replace hI := hI.below hb1
  go_wp2_with fail
  refine (rules_any w1).mono ?_
  rintro e w2 ⟨rfl, hg2, hb2⟩
  replace hI := hI.below hb2
  have d0 := cell_of_row w2 _ 6 _ _ _ hg2
  have d1 := cell_of_row w2 _ 7 _ _ _ hg2
  replace d0 := d0.trans (show Cl.tab[6]? = some (.func (.func 90) #[] #[]) from rfl)
  replace d1 := d1.trans (show Cl.tab[7]? = some (.func (.func 91) #[] #[]) from rfl)
  have hB := hb1.trans (hb2.mono hb1.size)
  have hs1 := heap_lt hg2
  generalize w1.heap.size = G1 at d0 d1 hs1 ⊢
  clear hb1 hb2 hg2
  obtain ⟨⟨n0, n1⟩, f0, f1⟩ := row_fr (heap_alloc_new w2 (.cells #[.nilFunc, .nilFunc] 73))
  obtain ⟨Wn, hWn⟩ : ∃ W, W = w2.alloc (.cells #[.nilFunc, .nilFunc] 73) := ⟨_, rfl⟩
  rw [← hWn] at n0 n1 f0 f1
  obtain ⟨G9, hG9⟩ : ∃ G, G = w2.heap.size := ⟨_, rfl⟩
  rw [← hG9] at n0 n1 f0 f1
  go_wp2_with (first | (rw [← hWn, ← hG9]) | fail)
  have r9 := heap_alloc_new w2 (.cells #[.func (.func 90) #[] #[], .func (.func 91) #[] #[]] 73)
  have hBn : Below w.heap.size w (w2.alloc (.cells #[.func (.func 90) #[] #[], .func (.func 91) #[] #[]] 73)) := hB.alloc hB.size _
  replace hI := hI.below ((Below.refl _ w2).alloc (Nat.le_refl _) (.cells #[.func (.func 90) #[] #[], .func (.func 91) #[] #[]] 73))
  clear n0 n1 f0 f1 hWn
  subst hG9
  have hGw := hB.size
  clear d0 d1 hs1 hB
  generalize w2.alloc (.cells #[.func (.func 90) #[] #[], .func (.func 91) #[] #[]] 73) = W3 at r9 hBn hI ⊢
  generalize w2.heap.size = G9 at r9 hGw ⊢
  refine (dlevel_any L E ao n cap W3 hI Hn.out Hok.out (by have := HE.out; omega) (by have := HE.out; omega)).mono ?_
  rintro e w4 ⟨a, d, hL, rfl, hb4⟩
  obtain ⟨q, hq⟩ : ∃ q, q = mkRat a d.toNat := ⟨_, rfl⟩
  rw [← hq]
  have HQ := Lib.hid (And.intro hL hq)
  have hqb := Cl.levS_q hL; rw [← hq] at hqb; have hqb2 := And.intro hqb.2.2.1 (And.intro hqb.1 hqb.2.1); clear hqb hL hq
  have Hqb := Lib.hid hqb2
  clear hqb2
  rw [show Fr q = .agg #[.int .i64 q.num, .int .i64 q.den] from rfl]
  replace r9 := heap_keep hb4 r9
  replace hI := hI.below hb4
  replace hBn := hBn.trans (hb4.mono hBn.size)
  clear hb4
  obtain ⟨⟨c0, c1⟩, -, -⟩ := row_fr r9
  go_wp2_with fail
  have hlG := heap_lt r9
  have rq := heap_alloc_new w4 (.cells #[.int .i64 q.num, .int .i64 q.den] 35)
  replace r9 := heap_keep ((Below.refl _ w4).alloc (Nat.le_refl _) (.cells #[.int .i64 q.num, .int .i64 q.den] 35)) r9
  replace hI := hI.below ((Below.refl _ w4).alloc (Nat.le_refl _) (.cells #[.int .i64 q.num, .int .i64 q.den] 35))
  have hBq : Below w.heap.size w (w4.alloc (.cells #[.int .i64 q.num, .int .i64 q.den] 35)) := hBn.alloc hBn.size _
  have hGw2 := hBn.size
  clear c0 c1 hBn
  have hs5 : w4.heap.size + 1 ≤ (w4.alloc (.cells #[.int .i64 q.num, .int .i64 q.den] 35)).heap.size := by simp
  generalize w4.alloc (.cells #[.int .i64 q.num, .int .i64 q.den] 35) = w5 at rq r9 hI hBq hs5 ⊢
  generalize w4.heap.size = G at rq hlG hGw2 hs5 ⊢
  go_loopw [11, 13, 31] (fun v _ i wr => ∃ k : Nat, k ≤ n ∧ i = .int .i64 k ∧ Hid (wr.ownsRow (G + 1) 35 2 v k (flat2 (((L.take k).map fun c => mkRat (min (c * q.den) q.num) (2 * q.den)).map pr))) ∧ wr.heap[G9]? = some (.cells #[.func (.func 90) #[] #[], .func (.func 91) #[] #[]] 73 (0, 0)) ∧ wr.heap[G]? = some (.cells #[.int .i64 q.num, .int .i64 q.den] 35 (0, 0)) ∧ Ints wr ao L ∧ Below w.heap.size w wr ∧ G + 1 ≤ wr.heap.size) (fun _ _ i _ => n - (intOf i).toNat)
  case atStart => exact ⟨0, Nat.zero_le _, rfl, Lib.hid ⟨rfl, .inl ⟨rfl, rfl⟩⟩, r9, rq, hI, hBq, hs5⟩
  case round =>
    clear r9 rq hI hBq hs5
    obtain ⟨k, hk, rfl, hown, r9, rq, hI, hB, hs5⟩ := hrel
    by_cases hlt : k < n
    · have hkl : k < L.length := by have := Hn.out; omega
      obtain ⟨b, off, rfl, hbs, hcx⟩ := hI.at hkl
      obtain ⟨x, hx⟩ : ∃ x, x = L.getD k 0 := ⟨_, rfl⟩
      have hxb : 0 ≤ x ∧ x ≤ 1000 := HC.out.2.2 x (by rw [hx, List.getD_eq_getElem?_getD, List.getElem?_eq_getElem hkl]; simp)
      have hxe : x = L[k] := by rw [hx, List.getD_eq_getElem?_getD, List.getElem?_eq_getElem hkl]; rfl
      rw [← hx] at hcx
      have Hx := Lib.hid hxe
      clear hx hxe
      have i1 : (k : Int) < (n : Int) := by omega
      obtain ⟨⟨c0, c1⟩, -, -⟩ := row_fr r9
      obtain ⟨⟨c2, c3⟩, -, -⟩ := row_fr rq
      go_wp2_with fail
      refine (clo4_any x q wr hxb (by have := Hqb.out; omega) (by have := Hqb.out; omega)).mono ?_
      rintro e wc ⟨rfl, hbb⟩
      obtain ⟨V, hV⟩ : ∃ V, V = mkRat (min (x * q.den) q.num) (2 * q.den) := ⟨_, rfl⟩
      rw [← hV]
      have hst : Hid (((L.take (k + 1)).map fun c => mkRat (min (c * q.den) q.num) (2 * q.den)).map pr = (((L.take k).map fun c => mkRat (min (c * q.den) q.num) (2 * q.den)).map pr) ++ [pr V]) := Lib.hid (by
        rw [List.take_succ_eq_append_getElem hkl, List.map_append, List.map_append, ← Hx.out, hV]
        rfl)
      clear hV
      rw [show Fr V = .agg #[.int .i64 V.num, .int .i64 V.den] from rfl]
      clear c0 c1 c2 c3 hcx hbs
      replace r9 := heap_keep hbb r9
      replace rq := heap_keep hbb rq
      replace hI := hI.below hbb
      replace hB := hB.trans (hbb.mono hB.size)
      replace hown := Lib.hid (own_below hown.out hbb)
      have hsc : G + 1 ≤ wc.heap.size := by have := hbb.size; omega
      clear hbb hs5
      go_wp2_with (first | (at_builtin; refine wpList_append_own _ rfl _ _ 27 rfl (G + 1) 35 i0 (.agg #[.int .i64 0, .int .i64 0]) 2 16 Try.underlying27 hi0 hz0 hz1 hz2 rfl (by decide) _ k _ rfl (hown.out.alloc _) ⟨wc.heap.size, 0, none⟩ 1 1 [.int .i64 V.num, .int .i64 V.den] rfl rfl (World.news_of_block (cs := #[.int .i64 V.num, .int .i64 V.den]) (t := 35) (fr := (0, 0)) (heap_alloc_new wc _)) (by simp [Value.oneCell']) (by unfold maxLen; omega) (by omega) (by simp; omega) ?_; intro v' w3 hown3 hgrow3 hnil3; have hb5 : Below w.heap.size w w3 := (hB.alloc hB.size _).grown hgrow3 (by have := hB.size; simp; omega) (fun q hq => by have := (hown.out.lt _ hq).1; omega); have hb9 : Below (G + 1) (wc.alloc (.cells #[.int .i64 V.num, .int .i64 V.den] 35)) w3 := (Below.refl _ _).grown hgrow3 (by simp; omega) (fun q hq => (hown.out.lt _ hq).1); clear hgrow3 hnil3))
      have hs3 : G + 1 ≤ w3.heap.size := by have := hb9.size; simp at this; omega
      have r93 := (hb9.block G9 (by omega)).trans ((heap_alloc_old _ _ (by omega)).trans r9)
      have rq3 := (hb9.block G (by omega)).trans ((heap_alloc_old _ _ (by omega)).trans rq)
      go_roundw
      case rel => exact ⟨k + 1, by omega, by go_num, Lib.hid (by rw [hst.out, flat2_app]; exact hown3), r93, rq3, HI0.out.below hb5, hb5, hs3⟩
      case measure => simp [intOf]; omega
    · have hkn : k = n := by omega
      have Ho : Hid (wr.ownsRow w.heap.size 35 2 u11 n (flat2 ((L.map fun c => mkRat (min (c * q.den) q.num) (2 * q.den)).map pr))) := Lib.hid (by
        have h := own_mono hown.out (show w.heap.size ≤ G + 1 by omega)
        rw [hkn, Hn.out, List.take_length] at h
        rw [Hn.out]
        exact h)
      clear hkn
      go_wp2
      go_ret2
      exact ⟨q, _, ⟨a, d, HQ.out⟩, rfl, Ho.out, hB⟩
end Go.Proofs.Yteecfdjphjkdkaa
