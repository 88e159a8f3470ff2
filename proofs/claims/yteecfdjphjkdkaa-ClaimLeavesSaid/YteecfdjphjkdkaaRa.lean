import Derived.Test.YteecfdjphjkdkaaQc
namespace Go.Proofs.Yteecfdjphjkdkaa
open Go.RowKit
namespace Cl
def lsF (c : Int) (x : Int × Int) : Rat := mkRat (c * x.2 - x.1) x.2.toNat
def lsL (L : List Int) (A : List (Int × Int)) : List Rat := List.zipWith lsF L A
def lsR (L : List Int) (E : Int) (A : List (Int × Int)) : List Rat := if chC L E A = 0 then lsL L A else []
theorem lsR_ok {L : List Int} {E : Int} {A : List (Int × Int)} (h : chC L E A = 0) : lsR L E A = lsL L A := if_pos h
theorem lsR_no {L : List Int} {E : Int} {A : List (Int × Int)} (h : chC L E A ≠ 0) : lsR L E A = [] := if_neg h
theorem ch_ok {L : List Int} {E : Int} {A : List (Int × Int)} (h : chC L E A = 0) : caseC L E = 0 ∧ A.length = L.length ∧ com A ≠ 0 ∧ chGood L A ∧ Fl.sumI (ovL A (com A)) = E * com A := by
  by_cases h0 : caseC L E = 0
  · by_cases h1 : A.length = L.length ∧ com A ≠ 0
    · by_cases h2 : chGood L A
      · have e := ch_sum h0 h1 h2
        rw [h] at e
        by_cases h3 : Fl.sumI (ovL A (com A)) = E * com A
        · exact ⟨h0, h1.1, h1.2, h2, h3⟩
        · rw [if_neg h3] at e; omega
      · have e := ch_rule h0 h1 h2; omega
    · have e := ch_arg (E := E) h1; omega
  · have e := ch_case (A := A) h0; omega
theorem ch_each {L : List Int} {E : Int} {A : List (Int × Int)} (h : chC L E A = 0) {i : Nat} (hi : i < L.length) (hA : i < A.length) : rtOk A[i] = true ∧ A[i].1 ≤ L[i] * A[i].2 := by
  obtain ⟨h0, h1, h2, h3, h4⟩ := ch_ok h
  have hr := com_all h2 _ (List.getElem_mem hA)
  refine ⟨hr, ?_⟩
  have hg := h3 i hi
  rw [gd (by rw [ovL_len]; exact hA), gd hi] at hg
  unfold ovL at hg
  rw [List.getElem_map] at hg
  have hd := (comF_mult (a := 1) h2).2 _ (List.getElem_mem hA)
  have hx := rtOk_iff.1 hr
  unfold com at hg h2
  generalize comF 1 A = C at hg hd h2
  clear hr
  generalize A[i] = x at hg hd hx ⊢
  obtain ⟨x1, x2⟩ := x
  simp only at hg hd hx ⊢
  obtain ⟨d, rfl⟩ := Int.eq_ofNat_of_zero_le (show 0 ≤ x2 by omega)
  rw [Int.toNat_natCast] at hd
  obtain ⟨t, rfl⟩ := hd
  have ht : 1 ≤ t := by
    rcases Nat.eq_zero_or_pos t with e | e
    · rw [e] at h2; simp at h2
    · omega
  rw [Int.natCast_mul, Int.mul_ediv_cancel_left _ (by omega), ← Int.mul_assoc] at hg
  exact Int.le_of_mul_le_mul_right hg (by omega)
theorem lsL_take {L : List Int} {A : List (Int × Int)} {k : Nat} (h1 : k < L.length) (h2 : k < A.length) : flat2 ((lsL (L.take (k + 1)) (A.take (k + 1))).map pr) = flat2 ((lsL (L.take k) (A.take k)).map pr) ++ [.int .i64 (lsF L[k] A[k]).num, .int .i64 (lsF L[k] A[k]).den] := by
  unfold lsL
  rw [List.take_succ_eq_append_getElem h1, List.take_succ_eq_append_getElem h2, List.zipWith_append (by rw [List.length_take, List.length_take]; omega), List.map_append, flat2_app]
  rfl
end Cl
set_option maxRecDepth 100000 in
set_option maxHeartbeats 1000000 in
theorem lessR_any (c x1 x2 : Int) (w : World) (hc : 0 ≤ c ∧ c ≤ 100000) (hx : 0 ≤ x1 ∧ x1 ≤ 10000000 ∧ 1 ≤ x2 ∧ x2 ≤ 10000) (hle : x1 ≤ c * x2) :
    Calls Try.prog 67 #[.int .i64 c, .agg #[.int .i64 x1, .int .i64 x2]] w fun e w' => e = .returned (Fr (Cl.lsF c (x1, x2))) ∧ Below w.heap.size w w' := by
  obtain ⟨d, rfl⟩ := Int.eq_ofNat_of_zero_le (show 0 ≤ x2 by omega)
  have p2 : c * (d : Int) ≤ 100000 * 10000 := Int.mul_le_mul hc.2 hx.2.2.2 (by omega) (by omega)
  obtain ⟨V, hV⟩ : ∃ V : Nat, (V : Int) = c * (d : Int) - x1 := ⟨(c * (d : Int) - x1).toNat, by omega⟩
  have hVb : V ≤ 1000000000 := by omega
  have e1 : IntKind.i64.wrap (c * (d : Int)) = c * (d : Int) := IntWalk.i64_in _ (by omega)
  have e2 : IntKind.i64.wrap (c * (d : Int) - x1) = (V : Int) := by rw [hV]; exact IntWalk.i64_in _ (by omega)
  have hq : Cl.lsF c (x1, (d : Int)) = mkRat V d := by unfold Cl.lsF; simp only [Int.toNat_natCast]; rw [hV]
  have hdb : 1 ≤ d ∧ d ≤ 10000 := by omega
  obtain ⟨q, hqd⟩ : ∃ q, q = mkRat V d := ⟨_, rfl⟩
  rw [hq, ← hqd]
  have HQ := Lib.hid hqd
  clear hq hqd hV p2 hle
  have r1 := heap_alloc2_new w (.cells #[.int .i64 x1, .int .i64 d] 35) (.cells #[.int .i64 0, .int .i64 0] 35)
  have r0 : ((w.alloc (.cells #[.int .i64 x1, .int .i64 d] 35)).alloc (.cells #[.int .i64 0, .int .i64 0] 35)).heap[w.heap.size]? = some (.cells #[.int .i64 x1, .int .i64 d] 35 (0, 0)) := heap_at ((Below.refl _ (w.alloc (.cells #[.int .i64 x1, .int .i64 d] 35))).alloc (Nat.le_refl _) (.cells #[.int .i64 0, .int .i64 0] 35)) (k := w.heap.size) (by simp) (heap_alloc_new w _)
  have hB : Below w.heap.size w ((w.alloc (.cells #[.int .i64 x1, .int .i64 d] 35)).alloc (.cells #[.int .i64 0, .int .i64 0] 35)) := below_alloc2 w _ _
  go_enter Try.func67, Try.ntmps67
  go_upto_region 1 with fail
  generalize ((w.alloc (.cells #[.int .i64 x1, .int .i64 d] 35)).alloc (.cells #[.int .i64 0, .int .i64 0] 35)) = W at r0 r1 hB ⊢
  obtain ⟨G, hG⟩ : ∃ G, G = w.heap.size := ⟨_, rfl⟩
  rw [← hG] at r0 r1 ⊢
  have hGw : w.heap.size ≤ G + 1 := by omega
  clear hG
  obtain ⟨⟨c0, c1⟩, -, -⟩ := row_fr r0
  go_wp2_with fail
  refine (lowest_any V d W (by omega) (by omega) (by omega)).mono ?_
  rintro e w2 ⟨rfl, hb2⟩
  rw [← HQ.out]
  replace r1 := heap_keep hb2 r1
  replace hB := hB.trans (hb2.mono hB.size)
  clear hb2
  rw [show Fr q = .agg #[.int .i64 q.num, .int .i64 q.den] from rfl]
  obtain ⟨⟨d0, d1⟩, f0, f1⟩ := row_fr r1
  go_wp2_with fail
  exact bodyPost_ret (results_cell_row rfl _ _ _ _ _ _ _ rfl (two_cells r1 (.int .i64 q.num) (.int .i64 q.den)) Try.underlying35 rfl infoRat2) rfl ⟨rfl, below_setCell (below_setCell hB hGw _) hGw _⟩
set_option maxRecDepth 100000 in
set_option maxHeartbeats 2000000 in
theorem losses_any (L : List Int) (E : Int) (A : List (Int × Int)) (ao : Option Addr) (n cap : Nat) (aoA : Option Addr) (nA capA : Nat) (w : World) (hI : Ints w ao L) (hJ : Pts w aoA A) (hln : n = L.length) (hlA : nA = A.length) (hn : n ≤ 100000) (hnA : nA ≤ 100000) :
    Calls Try.prog 33 #[.slice ao n cap, .int .i64 E, .slice aoA nA capA] w fun e w' => ∃ ao2 cap2, e = .returned (.tuple #[.slice ao2 (Cl.lsR L E A).length cap2, .int .i64 (Cl.chC L E A)]) ∧ Pts w' ao2 ((Cl.lsR L E A).map pr) ∧ Below w.heap.size w w' := by
  obtain ⟨i0, hi0, hz0, hz1, hz2⟩ := info_rt
  have HI := Lib.hid hI
  have HJ := Lib.hid hJ
  have Hn := Lib.hid hln
  have HnA := Lib.hid hlA
  clear hln hlA hI hJ
  go_enter Try.func33, Try.ntmps33
  go_wp2_with fail
  refine (check_any L E A ao n cap aoA nA capA w HI.out HJ.out Hn.out HnA.out hn hnA).mono ?_
  rintro e w1 ⟨rfl, hB⟩
  by_cases hc : Cl.chC L E A = 0
  · have Hr := Lib.hid (Cl.lsR_ok hc)
    have Hc := Lib.hid hc
    rw [hc]
    clear hc
    have hok := Cl.ch_ok Hc.out
    have HC := Lib.hid (Cl.okC_iff.1 (Cl.caseC_ok.1 hok.1).1)
    have Hne := Lib.hid hok.2.1
    have hn8 : n ≤ 8 := by have := HC.out; have := Hn.out; omega
    clear hok
    go_wp2_with fail
    go_loopw [9, 10, 11, 21] (fun v _ _ i wr => ∃ k : Nat, k ≤ n ∧ i = .int .i64 k ∧ Hid (wr.ownsRow w.heap.size 35 2 v k (flat2 ((Cl.lsL (L.take k) (A.take k)).map pr))) ∧ Below w.heap.size w wr) (fun _ _ _ i _ => n - (intOf i).toNat)
    case atStart => exact ⟨0, Nat.zero_le _, rfl, Lib.hid ⟨rfl, .inl ⟨rfl, rfl⟩⟩, hB⟩
    case round =>
      clear hB
      obtain ⟨k, hk, rfl, hown, hB⟩ := hrel
      by_cases hlt : k < n
      · have hkL : k < L.length := by have := Hn.out; omega
        have hkA : k < A.length := by have := Hne.out; omega
        obtain ⟨b, off, rfl, hbs, hcx⟩ := (HI.out.below hB).at hkL
        obtain ⟨b2, off2, rfl, hbs2, hx1, hx2⟩ := pts_at (HJ.out.below hB) hkA
        rw [Cl.gd hkL] at hcx
        have hcb := HC.out.2.2 _ (List.getElem_mem hkL)
        have hea := Cl.ch_each Hc.out hkL hkA
        have Hst := Lib.hid (Cl.lsL_take hkL hkA)
        generalize L[k] = c at hcx hcb hea Hst
        generalize A[k] = x at hx1 hx2 hea Hst
        obtain ⟨x1, x2⟩ := x
        simp only at hx1 hx2 hea
        have hxr := Cl.rtOk_iff.1 hea.1
        have hxb : 0 ≤ x1 ∧ x1 ≤ 10000000 ∧ 1 ≤ x2 ∧ x2 ≤ 10000 := ⟨hxr.1, hxr.2.1, hxr.2.2.1, hxr.2.2.2.1⟩
        have hle := hea.2
        clear hxr hea
        have i1 : (k : Int) < (n : Int) := by omega
        have i2 : (k : Int) < (nA : Int) := by have := HnA.out; have := Hne.out; have := Hn.out; omega
        have HL := Lib.hid (fun w' => lessR_any c x1 x2 w' (by omega) hxb hle)
        clear hle
        go_wp2_with fail
        refine (HL.out wr).mono ?_
        rintro e w2 ⟨rfl, hb2⟩
        obtain ⟨V, hV⟩ : ∃ V, V = Cl.lsF c (x1, x2) := ⟨_, rfl⟩
        rw [← hV] at Hst ⊢
        clear hV
        rw [show Fr V = .agg #[.int .i64 V.num, .int .i64 V.den] from rfl]
        replace hown := Lib.hid (own_below hown.out hb2)
        replace hB := hB.trans (hb2.mono hB.size)
        clear hb2
        have hsz := hB.size
        go_wp2_with (at_builtin; refine wpList_append_own _ rfl _ _ 27 rfl w.heap.size 35 i0 (.agg #[.int .i64 0, .int .i64 0]) 2 16 Try.underlying27 hi0 hz0 hz1 hz2 rfl (by decide) _ k _ rfl (hown.out.alloc _) ⟨w2.heap.size, 0, none⟩ 1 1 [.int .i64 V.num, .int .i64 V.den] rfl rfl (World.news_of_block (cs := #[.int .i64 V.num, .int .i64 V.den]) (t := 35) (fr := (0, 0)) (heap_alloc_new w2 _)) (by simp [Value.oneCell']) (by unfold maxLen; omega) (by omega) (by simp; omega) ?_; intro v' w3 hown3 hgrow3 hnil3; have hb5 : Below w.heap.size w w3 := (hB.alloc hB.size _).grown hgrow3 (by simp; omega) (fun q hq => (hown.out.lt _ hq).1); clear hgrow3 hnil3)
        go_roundw
        case rel => exact ⟨k + 1, by omega, by go_num, Lib.hid (by rw [Hst.out]; exact hown3), hb5⟩
        case measure => simp [intOf]; omega
      · have hkn : k = n := by omega
        have Ho : Hid (wr.ownsRow w.heap.size 35 2 u9 n (flat2 ((Cl.lsR L E A).map pr)) ∧ n = (Cl.lsR L E A).length) := Lib.hid (by
          have h := hown.out
          rw [hkn, Hn.out, List.take_length, ← Hne.out, List.take_length, Hne.out] at h
          rw [Hr.out, Hn.out]
          exact ⟨h, by unfold Cl.lsL; rw [List.length_zipWith, Hne.out, Nat.min_self]⟩)
        clear hkn hown
        obtain ⟨ao8, cap8, rfl, -, hP⟩ := own_pts2 Ho.out.1 (by rw [List.length_map]; exact Ho.out.2)
        go_wp2_with fail
        go_ret2
        exact ⟨ao8, cap8, by rw [← Ho.out.2, Hc.out]; rfl, hP, hB⟩
  · have Hr := Lib.hid (Cl.lsR_no hc)
    have hcn : (Cl.chC L E A != 0) = true := by simpa using hc
    obtain ⟨C, hC⟩ : ∃ C, C = Cl.chC L E A := ⟨_, rfl⟩
    have HCC := Lib.hid hC
    rw [← hC] at hcn ⊢
    clear hc hC
    go_wp2_with fail
    go_ret2
    exact ⟨none, 0, by rw [Hr.out, ← HCC.out]; rfl, by rw [Hr.out]; exact ⟨fun h => by cases h⟩, hB⟩
end Go.Proofs.Yteecfdjphjkdkaa
