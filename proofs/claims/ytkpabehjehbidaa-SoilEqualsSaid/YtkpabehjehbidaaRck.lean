import Derived.Test.YtkpabehjehbidaaB6
namespace Go.Proofs.Ytkpabehjehbidaa
open Go.RowKit

theorem valid_plcM {L n d : Int} : Fl.plc L n d 1000000 = (valB n d 1000000 && (decide (0 ≤ n) && decide (mkRat n d.toNat ≤ (L : Rat)))) := by
  by_cases h : 0 ≤ n
  · unfold Fl.plc; rw [valB_amt h]; simp [h]
  · unfold Fl.plc Fl.amt; simp [h]
theorem rwhole_lit (n : Int) (w : World) : Calls Try.prog 38 #[.int .i64 n] w fun e w' => e = .returned (.agg #[.int .i64 n, .int .i64 1]) ∧ Below w.heap.size w w' := rwhole_any n w
theorem ends_get {l : List (Int × Int)} {cs : List (Int × Int)} (hca : ∀ c ∈ cs, Fl.plc (Fl.len l) c.1 c.2 1000000 = true) (k : Nat) (hk : k < cs.length) :
    ((cs.map Fl.rt ++ [(Fl.len l : Rat)]).getD k 0).num = (cs.getD k (0, 0)).1 ∧ (((cs.map Fl.rt ++ [(Fl.len l : Rat)]).getD k 0).den : Int) = (cs.getD k (0, 0)).2 := by
  rw [List.getD_eq_getElem?_getD, List.getElem?_append_left (by simpa using hk), List.getElem?_map, List.getD_eq_getElem?_getD, List.getElem?_eq_getElem hk]
  exact (Fl.plc_end (hca _ (List.getElem_mem hk))).2
theorem ends_last {l : List (Int × Int)} {cs : List (Int × Int)} (k : Nat) (hk : k = cs.length) : (cs.map Fl.rt ++ [(Fl.len l : Rat)]).getD k 0 = (Fl.len l : Rat) := by
  rw [List.getD_eq_getElem?_getD, List.getElem?_append_right (by simp [hk])]; simp [hk]

set_option maxRecDepth 100000 in
set_option maxHeartbeats 8000000 in
theorem rCheckCut_any (l : List (Int × Int)) (ps : List Int) (cs : List (Int × Int)) (ao : Option Addr) (n cap : Nat) (ao2 : Option Addr) (m cap2 : Nat) (ao3 : Option Addr) (r cap3 : Nat) (w : World) (hp : Pts w ao l) (hln : n = l.length) (hn : n ≤ 100000) (hI : Ints w ao2 ps) (hlm : m = ps.length) (hm : m ≤ 100000) (hC : Pts w ao3 cs) (hlc : r = cs.length) (hr : r ≤ 100000) (hnum : ∀ c ∈ cs, -9223372036854775808 ≤ c.1 ∧ c.1 ≤ 9223372036854775807) :
    Calls Try.prog 35 #[.slice ao n cap, .slice ao2 m cap2, .slice ao3 r cap3] w fun e w' => e = .returned (.int .i64 (Fl.checkC l ps cs)) ∧ Below w.heap.size w w' := by
  have Hn := Lib.hid hln
  have Hm := Lib.hid hlm
  have Hr := Lib.hid hlc
  have HN := Lib.hid hnum
  clear hln hlm hlc hnum
  obtain ⟨C, hCC⟩ : ∃ c, Fl.partsC l ps = c := ⟨_, rfl⟩
  have hC0 : C = 0 ∨ (C != 0) = true := by by_cases h : C = 0 <;> simp [h]
  have HC := Lib.hid hCC
  clear hCC
  obtain ⟨R, hR⟩ : ∃ c, Fl.checkC l ps cs = c := ⟨_, rfl⟩
  rw [hR]
  have HR := Lib.hid hR
  clear hR
  have hB := Below.refl w.heap.size w
  go_enter Try.func35, Try.ntmps35
  go_wp2_with fail
  refine (rparted_any l ps _ _ _ _ _ _ _ hp Hn.out hn hI Hm.out hm).mono ?_
  rintro e w1 ⟨rfl, hbb⟩
  replace hp := hp.below hbb
  replace hI := hI.below hbb
  replace hC := hC.below hbb
  replace hB := hB.trans (hbb.mono hB.size)
  clear hbb
  rw [HC.out]
  rcases hC0 with rfl | hC0
  · obtain ⟨h0, h1, h2, h3, h4⟩ := Fl.partsC_ok HC.out
    obtain ⟨⟨hl1, hl6⟩, hok⟩ := Fl.validate_ok.1 h0
    have m8 : m ≤ 8 := by have := Hm.out; omega
    have m1 : 1 ≤ m := by have := Hm.out; omega
    clear h0 h1 h2 h3 h4
    have hlb := Fl.len_bound hok
    have hul := Lib.hid (Fl.units_length hok)
    have hu := unitsOk_of hok hl6
    have hUL : (Fl.units l).length ≤ 1000 := by have := hul.out; omega
    have e1 : IntKind.i64.wrap ((m : Int) - 1) = (m : Int) - 1 := IntWalk.i64_in _ (by omega)
    by_cases hrm : (r : Int) = (m : Int) - 1
    · have hrm2 : cs.length = ps.length - 1 := by have := Hm.out; have := Hr.out; omega
      have HL2 := Lib.hid hrm2
      clear hrm2
      go_wp2_with fail
      refine (units_any l _ _ _ _ hp Hn.out hok hl6).mono ?_
      rintro e w2 ⟨ao4, cap4, rfl, hIu, hb2⟩
      have hs1 := hB.size
      have hB2 := hB.trans (hb2.mono hB.size)
      have hs2 := hB2.size
      have HI := Lib.hid (hI.below hb2)
      have HCs := Lib.hid (hC.below hb2)
      have HIu := Lib.hid hIu
      clear hI hC hp hIu hb2
      go_wp2
      clear e1
      have Hrm := Lib.hid hrm
      clear hrm
      have r7 : r ≤ 7 := by have := Hrm.out; omega
      go_loopw [9] (fun i wr => ∃ k : Nat, k ≤ r ∧ i = .int .i64 k ∧ Hid (∀ j, j < k → Fl.plc (Fl.len l) (cs.getD j (0, 0)).1 (cs.getD j (0, 0)).2 1000000 = true) ∧ Below w2.heap.size w2 wr) (fun i _ => r - (intOf i).toNat)
      case atStart => exact ⟨0, Nat.zero_le _, rfl, Lib.hid fun j hj => by omega, Below.refl _ _⟩
      case round =>
        obtain ⟨k, hk, rfl, hall, hb⟩ := hrel
        by_cases hlt : k < r
        · have hkl : k < cs.length := by have := Hr.out; omega
          obtain ⟨b, off, rfl, hbs, hc1, hc2⟩ := pts_at HCs.out hkl
          replace hc1 := keep_cell hb hc1
          replace hc2 := keep_cell hb hc2
          have hgd : cs.getD k (0, 0) = cs[k] := by rw [List.getD_eq_getElem?_getD, List.getElem?_eq_getElem hkl]; rfl
          have hnk := HN.out _ (List.getElem_mem hkl)
          rw [← hgd] at hc1 hc2 hnk
          have hbad := Fl.checkC_bad HC.out hkl
          obtain ⟨x, hx⟩ : ∃ x, x = cs.getD k (0, 0) := ⟨_, rfl⟩
          rw [← hx] at hc1 hc2 hnk hbad
          obtain ⟨x1, x2⟩ := x
          simp only at hc1 hc2 hnk hbad
          have Hx := Lib.hid hx
          clear hx hgd
          have i1 : (k : Int) < (m : Int) - 1 := by have := Hrm.out; omega
          have hs := hb.size
          have hvp := valid_plcM (L := Fl.len l) (n := x1) (d := x2)
          rw [hvp] at hbad
          cases hval : valB x1 x2 1000000 with
          | false =>
            have hR1 : Hid (R = 1) := Lib.hid (HR.out.symm.trans (hbad (by rw [hval]; rfl)))
            have Hval := Lib.hid hval
            clear hval hvp hbad
            go_wp2_with fail
            refine (risValid_any x1 x2 1000000 _ hnk.1 hnk.2 (by omega)).mono ?_
            rintro e w3 ⟨rfl, hbb⟩
            rw [Hval.out]
            go_wp2
            go_ret
            exact ⟨ret_int hR1.out.symm, hB2.trans ((hb.trans (hbb.mono hb.size)).mono hs2)⟩
          | true =>
            have hdd := valB_d hval
            rw [hval, Bool.true_and] at hvp hbad
            obtain ⟨Z, hZ⟩ : ∃ z, Fl.plc (Fl.len l) x1 x2 1000000 = z := ⟨_, rfl⟩
            rw [hZ] at hvp
            rw [← hvp] at hbad
            have hvu : Hid ((decide (0 ≤ x1) && decide (mkRat x1 x2.toNat ≤ ((((Fl.units l).length : Nat) : Int) : Rat))) = Z) := Lib.hid (by rw [hul.out]; exact hvp.symm)
            have Hval := Lib.hid hval
            have HZ := Lib.hid hZ
            have Hbad := Lib.hid hbad
            clear hval hvp hZ hbad
            go_wp2_with fail
            refine (risValid_any x1 x2 1000000 _ hnk.1 hnk.2 (by omega)).mono ?_
            rintro e w3 ⟨rfl, hbb⟩
            rw [Hval.out]
            replace hc1 := keep_cell hbb hc1
            replace hc2 := keep_cell hbb hc2
            replace hb := hb.trans (hbb.mono hb.size)
            clear hbb
            go_wp2_with fail
            refine (risPlace_any _ _ _ x1 x2 _ hUL hdd.1 (by omega) hnk.2).mono ?_
            rintro e w4 ⟨rfl, hbb⟩
            rw [hvu.out]
            replace hb := hb.trans (hbb.mono hb.size)
            clear hbb hc1 hc2
            cases Z with
            | false =>
              have hR1 : Hid (R = 1) := Lib.hid (HR.out.symm.trans (Hbad.out rfl))
              go_wp2
              go_ret
              exact ⟨ret_int hR1.out.symm, hB2.trans (hb.mono hs2)⟩
            | true =>
              go_wp2
              go_roundw
              case rel =>
                refine ⟨k + 1, by omega, by go_num, Lib.hid fun j hj => ?_, hb⟩
                by_cases e : j = k
                · subst e; rw [← Hx.out]; exact HZ.out
                · exact hall.out j (by omega)
              case measure => simp [intOf]; omega
        · have hk2 : k = r := by omega
          have hca : ∀ c ∈ cs, Fl.plc (Fl.len l) c.1 c.2 1000000 = true := by
            intro c hc
            obtain ⟨j, hj, rfl⟩ := List.getElem_of_mem hc
            have := hall.out j (by have := Hr.out; omega)
            rwa [List.getD_eq_getElem?_getD, List.getElem?_eq_getElem hj] at this
          have hRv := HR.out.symm.trans (Fl.checkC_ok HC.out HL2.out hca)
          have hends := Fl.ends_all hok hca
          have hget := ends_get hca
          have hlast := fun k h => ends_last (l := l) (cs := cs) k h
          obtain ⟨E, hE⟩ : ∃ E, E = cs.map Fl.rt ++ [(Fl.len l : Rat)] := ⟨_, rfl⟩
          have hEl : E.length = r + 1 := by rw [hE, List.length_append, List.length_map, Hr.out]; rfl
          rw [← hE] at hRv hends
          simp only [← hE] at hget hlast
          have HE := Lib.hid (And.intro hRv (And.intro hends (And.intro hget (And.intro hlast hEl))))
          clear hRv hends hEl hE hca hall hk2 hget hlast
          have i1 : ¬ (k : Int) < (m : Int) - 1 := by have := Hrm.out; omega
          go_wp2_with fail
          refine (rwhole0_any _).mono ?_
          rintro e w6 ⟨rfl, hb6⟩
          have hB5 := hb.trans (hb6.mono hb.size)
          have hb7 : Below w2.heap.size w2 (w6.alloc (.cells #[.int .i64 0, .int .i64 1] 29)) := hB5.alloc hB5.size _
          have r10 := heap_alloc_new w6 (.cells #[.int .i64 0, .int .i64 1] 29)
          have hs6 := hB5.size
          clear hb hb6 hB5
          go_wp2_with fail
          generalize w6.alloc (.cells #[.int .i64 0, .int .i64 1] 29) = W7 at hb7 r10 ⊢
          obtain ⟨G, hG⟩ : ∃ g, g = w6.heap.size := ⟨_, rfl⟩
          rw [← hG] at r10 hs6 ⊢
          clear hG
          go_loopw [11] (fun i wr => ∃ k : Nat, k ≤ m ∧ i = .int .i64 k ∧ ∃ a : Rat, Hid (Fl.EndAt l a ∧ Fl.chainB l a (ps.drop k) (E.drop k) = Fl.chainB l 0 ps E) ∧ wr.heap[G]? = some (.cells #[.int .i64 a.num, .int .i64 a.den] 29 (0, 0)) ∧ Below w2.heap.size w2 wr) (fun i _ => m - (intOf i).toNat)
          case atStart => exact ⟨0, Nat.zero_le _, rfl, 0, Lib.hid ⟨Fl.endAt_zero hok, by rw [List.drop_zero, List.drop_zero]⟩, r10, hb7⟩
          case round =>
            clear r10 hb7
            obtain ⟨k, hk, rfl, a, hA, r10, hb⟩ := hrel
            by_cases hlt : k < m
            · have hkl : k < ps.length := by have := Hm.out; omega
              have hkE : k < E.length := by have := HE.out.2.2.2.2; have := Hrm.out; omega
              obtain ⟨b, off, rfl, hbs, hcx⟩ := HI.out.at hkl
              have hcx0 := hcx
              replace hcx := keep_cell hb hcx
              have hIw := HIu.out.below hb
              have hgE : E.getD k 0 = E[k] := by rw [List.getD_eq_getElem?_getD, List.getElem?_eq_getElem hkE]; rfl
              have hq := HE.out.2.1 _ (List.getElem_mem hkE)
              have hqg := HE.out.2.2.1 k
              have hql := HE.out.2.2.2.1 k
              rw [hgE] at hqg hql
              have hch := hA.out.2
              have hdp : ps.drop k = ps.getD k 0 :: ps.drop (k + 1) := by rw [List.drop_eq_getElem_cons hkl, List.getD_eq_getElem?_getD, List.getElem?_eq_getElem hkl]; rfl
              have hdE : E.drop k = E[k] :: E.drop (k + 1) := List.drop_eq_getElem_cons hkE
              rw [hdp, hdE, Fl.chain_next] at hch
              obtain ⟨x, hx⟩ : ∃ x, x = ps.getD k 0 := ⟨_, rfl⟩
              obtain ⟨q, hqq⟩ : ∃ x, x = E[k] := ⟨_, rfl⟩
              rw [← hx] at hcx hcx0 hch
              rw [← hqq] at hch hq hqg hql
              have Hq := Lib.hid hq
              have Hch := Lib.hid hch
              clear hx hqq hdp hdE hch hq hgE
              have i1 : (k : Int) < (m : Int) := by omega
              go_wp2_with fail
              refine (rwhole_lit (((Fl.units l).length : Nat) : Int) _).mono ?_
              rintro e w7 ⟨rfl, hbb⟩
              replace hcx := keep_cell hbb hcx
              replace hIw := hIw.below hbb
              replace r10 := heap_keep hbb r10
              replace hb := hb.trans (hbb.mono hb.size)
              clear hbb
              have hlG := heap_lt r10
              have hTs : w2.heap.size ≤ w7.heap.size := hb.size
              have hA12 := (Below.refl _ w7).alloc (Nat.le_refl _) (.cells #[.int .i64 q.num, .int .i64 q.den] 29)
              have r12 := heap_alloc_new w7 (.cells #[.int .i64 q.num, .int .i64 q.den] 29)
              have r10A := heap_keep hA12 r10
              have hbA := hb.trans (hA12.mono hb.size)
              have hcq := keep_cell hbA hcx0
              have H12 := Lib.hid (And.intro hbA (And.intro (HIu.out.below hbA) (And.intro r10A (And.intro r12 hcq))))
              clear hA12 hbA r12 r10A hIw hcq
              by_cases hkr : k < r
              · have hkc : k < cs.length := by have := Hr.out; omega
                obtain ⟨b2, off2, rfl, hbs2, hx1, hx2⟩ := pts_at HCs.out hkc
                replace hx1 := keep_cell hb hx1
                replace hx2 := keep_cell hb hx2
                have hgd : cs.getD k (0, 0) = cs[k] := by rw [List.getD_eq_getElem?_getD, List.getElem?_eq_getElem hkc]; rfl
                have hqg2 := hqg hkc
                rw [hgd] at hqg2
                rw [← hqg2.1] at hx1
                rw [← hqg2.2] at hx2
                have i2 : (k : Int) < (r : Int) := by omega
                have hb2lt : b2 < w7.heap.size := by omega
                have hblt : b < w7.heap.size := by omega
                clear hqg2 hgd hqg hql
                go_wp2_with fail
                clear hcx hx1 hx2 r10 hb
                generalize w7.alloc (.cells #[.int .i64 q.num, .int .i64 q.den] 29) = wq at H12 ⊢
                generalize w7.heap.size = T at H12 hlG hTs ⊢
                obtain ⟨hbb, hIw, r10, r12, hcx⟩ := H12.out
                clear H12
                obtain ⟨⟨c0, c1⟩, -, -⟩ := row_fr r10
                obtain ⟨⟨c2, c3⟩, -, -⟩ := row_fr r12
                have hsq := less_places Hq.out.e0 hA.out.1.e0 Hq.out.e1 hA.out.1.e1 (by omega) (by omega) (by have := Hq.out.d; omega) (by have := hA.out.1.d; omega)
                have hpa := placeU_of hok hA.out.1.e0 hA.out.1.e1 (by have := hA.out.1.d; omega)
                have hpq := placeU_of hok Hq.out.e0 Hq.out.e1 (by have := Hq.out.d; omega)
                have HS := Lib.hid (And.intro hsq (And.intro hpa hpq))
                clear hsq hpa hpq
                by_cases hlq : q < a
                · have hR7 : Hid (R = 7) := Lib.hid (by
                    have h1 := Hch.out
                    simp only [hlq, decide_true, Bool.not_true, Bool.false_and] at h1
                    rw [HE.out.1, ← h1]; rfl)
                  have hlt2 : decide (q < a) = true := decide_eq_true hlq
                  clear hlq
                  go_wp2_with fail
                  refine wp_region_held_drew (S := fun w' => w'.cell? ⟨G, 0, none⟩ = some (.int .i64 a.num) ∧ w'.cell? ⟨G, 1, none⟩ = some (.int .i64 a.den) ∧ w'.cell? ⟨T, 0, none⟩ = some (.int .i64 q.num) ∧ w'.cell? ⟨T, 1, none⟩ = some (.int .i64 q.den)) (by kernel_rfl) ⟨c0, c1, c2, c3⟩ (fun hHeld => ?_)
                  refine wpAnyH_take (i := 0) (v := Fr q) rfl (by kernel_rfl) (by kernel_rfl) (by kernel_rfl) (fun _ _ _ h => h) (Or.inl ⟨by rfl, fun w hSw => ?_⟩) (by assumption) ?_
                  · (try dsimp only at hSw); go_simp
                  try simp only [List.getElem_toArray, List.getElem_cons_zero, Act.put, List.setIfInBounds_toArray, List.set_cons_zero, List.set_cons_succ]
                  refine wpAnyH_take (i := 1) (v := Fr a) rfl (by kernel_rfl) (by kernel_rfl) (by kernel_rfl) (fun _ _ _ h => h) (Or.inl ⟨by rfl, fun w hSw => ?_⟩) (by assumption) ?_
                  · (try dsimp only at hSw); go_simp
                  try simp only [List.getElem_toArray, List.getElem_cons_zero, List.getElem_cons_succ, Act.put, List.setIfInBounds_toArray, List.set_cons_zero, List.set_cons_succ]
                  refine wpAnyH_ready (rs := [2]) (by kernel_rfl) (by simp) ?_
                  refine AllReadyH.cons rfl (fun K hK => ?_) AllReadyH.nil
                  go_simp
                  go_at_call 41
                  refine (rless_q q a _ HS.out.1).mono ?_
                  rintro e w8 ⟨rfl, hb8⟩
                  rw [hlt2]
                  have hb9 := (below_drewN hbb 1).trans (hb8.mono (by have := hbb.size; exact this))
                  (try dsimp only)
                  refine hK.out _ _ ⟨keep_cell hb8 c0, keep_cell hb8 c1, keep_cell hb8 c2, keep_cell hb8 c3⟩ (fun hHeld => ?_)
                  clear hK K
                  try simp only [List.getElem_toArray, List.getElem_cons_zero, List.getElem_cons_succ, Act.put, List.setIfInBounds_toArray, List.set_cons_zero, List.set_cons_succ]
                  refine wpAnyH_take (i := 3) (v := .bool true) rfl (by kernel_rfl) (by kernel_rfl) (by kernel_rfl) (fun _ _ _ h => h) (Or.inl ⟨by rfl, fun w hSw => ?_⟩) (by assumption) ?_
                  · go_simp
                  try simp only [List.getElem_toArray, List.getElem_cons_zero, List.getElem_cons_succ, Act.put, List.setIfInBounds_toArray, List.set_cons_zero, List.set_cons_succ]
                  refine wpAnyH_take (i := 4) (v := undef) rfl (by kernel_rfl) (by kernel_rfl) (by kernel_rfl) (fun _ _ _ h => h) (Or.inr ⟨by rfl, rfl⟩) (by assumption) ?_
                  try simp only [List.getElem_toArray, List.getElem_cons_zero, List.getElem_cons_succ, Act.put, List.setIfInBounds_toArray, List.set_cons_zero, List.set_cons_succ]
                  refine wpAnyH_take (i := 5) (v := undef) rfl (by kernel_rfl) (by kernel_rfl) (by kernel_rfl) (fun _ _ _ h => h) (Or.inr ⟨by rfl, rfl⟩) (by assumption) ?_
                  try simp only [List.getElem_toArray, List.getElem_cons_zero, List.getElem_cons_succ, Act.put, List.setIfInBounds_toArray, List.set_cons_zero, List.set_cons_succ]
                  refine wpAnyH_take (i := 6) (v := undef) rfl (by kernel_rfl) (by kernel_rfl) (by kernel_rfl) (fun _ _ _ h => h) (Or.inr ⟨by rfl, rfl⟩) (by assumption) ?_
                  try simp only [List.getElem_toArray, List.getElem_cons_zero, List.getElem_cons_succ, Act.put, List.setIfInBounds_toArray, List.set_cons_zero, List.set_cons_succ]
                  refine wpAnyH_take (i := 7) (v := undef) rfl (by kernel_rfl) (by kernel_rfl) (by kernel_rfl) (fun _ _ _ h => h) (Or.inr ⟨by rfl, rfl⟩) (by assumption) ?_
                  try simp only [List.getElem_toArray, List.getElem_cons_zero, List.getElem_cons_succ, Act.put, List.setIfInBounds_toArray, List.set_cons_zero, List.set_cons_succ]
                  refine wpAnyH_take (i := 8) (v := undef) rfl (by kernel_rfl) (by kernel_rfl) (by kernel_rfl) (fun _ _ _ h => h) (Or.inr ⟨by rfl, rfl⟩) (by assumption) ?_
                  try simp only [List.getElem_toArray, List.getElem_cons_zero, List.getElem_cons_succ, Act.put, List.setIfInBounds_toArray, List.set_cons_zero, List.set_cons_succ]
                  refine wpAnyH_take (i := 9) (v := undef) rfl (by kernel_rfl) (by kernel_rfl) (by kernel_rfl) (fun _ _ _ h => h) (Or.inr ⟨by rfl, rfl⟩) (by assumption) ?_
                  try simp only [List.getElem_toArray, List.getElem_cons_zero, List.getElem_cons_succ, Act.put, List.setIfInBounds_toArray, List.set_cons_zero, List.set_cons_succ]
                  refine wpAnyH_take (i := 10) (v := undef) rfl (by kernel_rfl) (by kernel_rfl) (by kernel_rfl) (fun _ _ _ h => h) (Or.inr ⟨by rfl, rfl⟩) (by assumption) ?_
                  try simp only [List.getElem_toArray, List.getElem_cons_zero, List.getElem_cons_succ, Act.put, List.setIfInBounds_toArray, List.set_cons_zero, List.set_cons_succ]
                  refine wpAnyH_take (i := 11) (v := undef) rfl (by kernel_rfl) (by kernel_rfl) (by kernel_rfl) (fun _ _ _ h => h) (Or.inr ⟨by rfl, rfl⟩) (by assumption) ?_
                  try simp only [List.getElem_toArray, List.getElem_cons_zero, List.getElem_cons_succ, Act.put, List.setIfInBounds_toArray, List.set_cons_zero, List.set_cons_succ]
                  refine wpAnyH_take (i := 12) (v := undef) rfl (by kernel_rfl) (by kernel_rfl) (by kernel_rfl) (fun _ _ _ h => h) (Or.inr ⟨by rfl, rfl⟩) (by assumption) ?_
                  try simp only [List.getElem_toArray, List.getElem_cons_zero, List.getElem_cons_succ, Act.put, List.setIfInBounds_toArray, List.set_cons_zero, List.set_cons_succ]
                  refine wpAnyH_take (i := 13) (v := undef) rfl (by kernel_rfl) (by kernel_rfl) (by kernel_rfl) (fun _ _ _ h => h) (Or.inr ⟨by rfl, rfl⟩) (by assumption) ?_
                  try simp only [List.getElem_toArray, List.getElem_cons_zero, List.getElem_cons_succ, Act.put, List.setIfInBounds_toArray, List.set_cons_zero, List.set_cons_succ]
                  refine wpAnyH_take (i := 14) (v := .bool true) rfl (by kernel_rfl) (by kernel_rfl) (by kernel_rfl) (fun _ _ _ h => h) (Or.inl ⟨by rfl, fun w hSw => ?_⟩) (by assumption) ?_
                  · go_simp
                  try simp only [List.getElem_toArray, List.getElem_cons_zero, List.getElem_cons_succ, Act.put, List.setIfInBounds_toArray, List.set_cons_zero, List.set_cons_succ]
                  refine wpAnyH_done (by kernel_rfl) ?_ _
                  go_wp2
                  go_ret
                  exact ⟨ret_int hR7.out.symm, hB2.trans (hb9.mono hs2)⟩
                · have hlt2 : decide (q < a) = false := decide_eq_false hlq
                  have hwb := Fl.worth_before hok hA.out.1.e0 (Rat.not_lt.1 hlq)
                  obtain ⟨W, hW⟩ : ∃ x, x = Fl.worth l a q := ⟨_, rfl⟩
                  have hch := Hch.out
                  rw [← hW] at hch hwb
                  simp only [hlq, decide_false, Bool.not_false, Bool.true_and] at hch
                  have Hwb := Lib.hid hwb
                  have qn := run_neq_rt W.num W.den x 1
                  have ep : decide ((W.num, (W.den : Int)) = ((x, 1) : Int × Int)) = decide (W = (x : Rat)) := rat_pair (x := W) (y := (x : Rat))
                  rw [ep] at qn
                  clear hlq ep hwb hW
                  cases hwx : decide (W = (x : Rat)) with
                  | false =>
                    rw [hwx] at hch qn
                    simp only [Bool.false_and] at hch
                    have hR7 : Hid (R = 7) := Lib.hid (by rw [HE.out.1, ← hch]; rfl)
                    clear hch hwx
                    go_wp2_with fail
                    go_region_held3 (fun w' => w'.cell? ⟨G, 0, none⟩ = some (.int .i64 a.num) ∧ w'.cell? ⟨G, 1, none⟩ = some (.int .i64 a.den) ∧ w'.cell? ⟨T, 0, none⟩ = some (.int .i64 q.num) ∧ w'.cell? ⟨T, 1, none⟩ = some (.int .i64 q.den) ∧ w'.cell? ⟨b, off + k, none⟩ = some (.int .i64 x))
                      (first | exact ⟨c0, c1, c2, c3, hcx⟩ | exact ka | exact kb | exact kc)
                      (first
                        | (go_at_call 41; refine (rless_q q a _ HS.out.1).mono ?_; rintro e w8 ⟨rfl, hb8⟩; rw [hlt2]; have ka := And.intro (keep_cell hb8 c0) (And.intro (keep_cell hb8 c1) (And.intro (keep_cell hb8 c2) (And.intro (keep_cell hb8 c3) (keep_cell hb8 hcx)))); replace hbb := (below_drewN hbb 1).trans (hb8.mono (by have := hbb.size; exact this)); replace hIw := Ints.below (w := wq.drew) ⟨hIw.cells⟩ hb8; replace r10 := heap_keep (W := wq.drew) hb8 r10; replace r12 := heap_keep (W := wq.drew) hb8 r12)
                        | (go_at_call 65; refine (rbetween_any (Fl.units l) a q _ _ _ hIw hu HS.out.2.1 HS.out.2.2).mono ?_; rintro e w9 ⟨rfl, hb9⟩; rw [← Hwb.out]; have kb := And.intro (keep_cell hb9 ka.1) (And.intro (keep_cell hb9 ka.2.1) (And.intro (keep_cell hb9 ka.2.2.1) (And.intro (keep_cell hb9 ka.2.2.2.1) (keep_cell hb9 ka.2.2.2.2)))); replace hbb := hbb.trans (hb9.mono hbb.size); replace r10 := heap_keep hb9 r10; replace r12 := heap_keep hb9 r12)
                        | (go_at_call 38; refine (rwhole_lit x _).mono ?_; rintro e w10 ⟨rfl, hb10⟩; have kc := And.intro (keep_cell hb10 kb.1) (And.intro (keep_cell hb10 kb.2.1) (And.intro (keep_cell hb10 kb.2.2.1) (And.intro (keep_cell hb10 kb.2.2.2.1) (keep_cell hb10 kb.2.2.2.2)))); replace hbb := hbb.trans (hb10.mono hbb.size); replace r10 := heap_keep hb10 r10; replace r12 := heap_keep hb10 r12))
                    go_wp2
                    go_ret
                    exact ⟨ret_int hR7.out.symm, hB2.trans (hbb.mono hs2)⟩
                  | true =>
                    rw [hwx] at hch qn
                    simp only [Bool.true_and] at hch
                    have HA2 := Lib.hid (And.intro Hq.out hch)
                    clear hch hwx
                    go_wp2_with fail
                    go_region_held3 (fun w' => w'.cell? ⟨G, 0, none⟩ = some (.int .i64 a.num) ∧ w'.cell? ⟨G, 1, none⟩ = some (.int .i64 a.den) ∧ w'.cell? ⟨T, 0, none⟩ = some (.int .i64 q.num) ∧ w'.cell? ⟨T, 1, none⟩ = some (.int .i64 q.den) ∧ w'.cell? ⟨b, off + k, none⟩ = some (.int .i64 x))
                      (first | exact ⟨c0, c1, c2, c3, hcx⟩ | exact ka | exact kb | exact kc)
                      (first
                        | (go_at_call 41; refine (rless_q q a _ HS.out.1).mono ?_; rintro e w8 ⟨rfl, hb8⟩; rw [hlt2]; have ka := And.intro (keep_cell hb8 c0) (And.intro (keep_cell hb8 c1) (And.intro (keep_cell hb8 c2) (And.intro (keep_cell hb8 c3) (keep_cell hb8 hcx)))); replace hbb := (below_drewN hbb 1).trans (hb8.mono (by have := hbb.size; exact this)); replace hIw := Ints.below (w := wq.drew) ⟨hIw.cells⟩ hb8; replace r10 := heap_keep (W := wq.drew) hb8 r10; replace r12 := heap_keep (W := wq.drew) hb8 r12)
                        | (go_at_call 65; refine (rbetween_any (Fl.units l) a q _ _ _ hIw hu HS.out.2.1 HS.out.2.2).mono ?_; rintro e w9 ⟨rfl, hb9⟩; rw [← Hwb.out]; have kb := And.intro (keep_cell hb9 ka.1) (And.intro (keep_cell hb9 ka.2.1) (And.intro (keep_cell hb9 ka.2.2.1) (And.intro (keep_cell hb9 ka.2.2.2.1) (keep_cell hb9 ka.2.2.2.2)))); replace hbb := hbb.trans (hb9.mono hbb.size); replace r10 := heap_keep hb9 r10; replace r12 := heap_keep hb9 r12)
                        | (go_at_call 38; refine (rwhole_lit x _).mono ?_; rintro e w10 ⟨rfl, hb10⟩; have kc := And.intro (keep_cell hb10 kb.1) (And.intro (keep_cell hb10 kb.2.1) (And.intro (keep_cell hb10 kb.2.2.1) (And.intro (keep_cell hb10 kb.2.2.2.1) (keep_cell hb10 kb.2.2.2.2)))); replace hbb := hbb.trans (hb10.mono hbb.size); replace r10 := heap_keep hb10 r10; replace r12 := heap_keep hb10 r12))
                    clear c0 c1 c2 c3 ka kb kc hcx
                    obtain ⟨⟨c0, c1⟩, f0, f1⟩ := row_fr r10
                    obtain ⟨⟨c2, c3⟩, -, -⟩ := row_fr r12
                    go_wp2
                    go_roundw
                    case rel => exact ⟨k + 1, by omega, by go_num, q, HA2, two_cells r10 _ _, below_setCell (below_setCell hbb (by omega) _) (by omega) _⟩
                    case measure => simp [intOf]; omega
              · have hqe := hql (by have := Hr.out; have := Hrm.out; have := HL2.out; omega)
                have i2 : ¬ (k : Int) < (r : Int) := by omega
                have hql2 : Hid ((((Fl.units l).length : Nat) : Int) = q.num ∧ (1 : Int) = (q.den : Int)) := Lib.hid (by rw [hul.out, hqe]; exact ⟨rfl, rfl⟩)
                clear hqe hqg hql
                go_wp2_with fail
                have hwq : w7.alloc (.cells #[.int .i64 (((Fl.units l).length : Nat) : Int), .int .i64 1] 29) = w7.alloc (.cells #[.int .i64 q.num, .int .i64 q.den] 29) := by rw [hql2.out.1, hql2.out.2]
                rw [hwq]
                clear hcx r10 hb hwq
                generalize w7.alloc (.cells #[.int .i64 q.num, .int .i64 q.den] 29) = wq at H12 ⊢
                generalize w7.heap.size = T at H12 hlG hTs ⊢
                obtain ⟨hbb, hIw, r10, r12, hcx⟩ := H12.out
                clear H12
                obtain ⟨⟨c0, c1⟩, -, -⟩ := row_fr r10
                obtain ⟨⟨c2, c3⟩, -, -⟩ := row_fr r12
                have hsq := less_places Hq.out.e0 hA.out.1.e0 Hq.out.e1 hA.out.1.e1 (by omega) (by omega) (by have := Hq.out.d; omega) (by have := hA.out.1.d; omega)
                have hpa := placeU_of hok hA.out.1.e0 hA.out.1.e1 (by have := hA.out.1.d; omega)
                have hpq := placeU_of hok Hq.out.e0 Hq.out.e1 (by have := Hq.out.d; omega)
                have HS := Lib.hid (And.intro hsq (And.intro hpa hpq))
                clear hsq hpa hpq
                by_cases hlq : q < a
                · have hR7 : Hid (R = 7) := Lib.hid (by
                    have h1 := Hch.out
                    simp only [hlq, decide_true, Bool.not_true, Bool.false_and] at h1
                    rw [HE.out.1, ← h1]; rfl)
                  have hlt2 : decide (q < a) = true := decide_eq_true hlq
                  clear hlq
                  go_wp2_with fail
                  refine wp_region_held_drew (S := fun w' => w'.cell? ⟨G, 0, none⟩ = some (.int .i64 a.num) ∧ w'.cell? ⟨G, 1, none⟩ = some (.int .i64 a.den) ∧ w'.cell? ⟨T, 0, none⟩ = some (.int .i64 q.num) ∧ w'.cell? ⟨T, 1, none⟩ = some (.int .i64 q.den)) (by kernel_rfl) ⟨c0, c1, c2, c3⟩ (fun hHeld => ?_)
                  refine wpAnyH_take (i := 0) (v := Fr q) rfl (by kernel_rfl) (by kernel_rfl) (by kernel_rfl) (fun _ _ _ h => h) (Or.inl ⟨by rfl, fun w hSw => ?_⟩) (by assumption) ?_
                  · (try dsimp only at hSw); go_simp
                  try simp only [List.getElem_toArray, List.getElem_cons_zero, Act.put, List.setIfInBounds_toArray, List.set_cons_zero, List.set_cons_succ]
                  refine wpAnyH_take (i := 1) (v := Fr a) rfl (by kernel_rfl) (by kernel_rfl) (by kernel_rfl) (fun _ _ _ h => h) (Or.inl ⟨by rfl, fun w hSw => ?_⟩) (by assumption) ?_
                  · (try dsimp only at hSw); go_simp
                  try simp only [List.getElem_toArray, List.getElem_cons_zero, List.getElem_cons_succ, Act.put, List.setIfInBounds_toArray, List.set_cons_zero, List.set_cons_succ]
                  refine wpAnyH_ready (rs := [2]) (by kernel_rfl) (by simp) ?_
                  refine AllReadyH.cons rfl (fun K hK => ?_) AllReadyH.nil
                  go_simp
                  go_at_call 41
                  refine (rless_q q a _ HS.out.1).mono ?_
                  rintro e w8 ⟨rfl, hb8⟩
                  rw [hlt2]
                  have hb9 := (below_drewN hbb 1).trans (hb8.mono (by have := hbb.size; exact this))
                  (try dsimp only)
                  refine hK.out _ _ ⟨keep_cell hb8 c0, keep_cell hb8 c1, keep_cell hb8 c2, keep_cell hb8 c3⟩ (fun hHeld => ?_)
                  clear hK K
                  try simp only [List.getElem_toArray, List.getElem_cons_zero, List.getElem_cons_succ, Act.put, List.setIfInBounds_toArray, List.set_cons_zero, List.set_cons_succ]
                  refine wpAnyH_take (i := 3) (v := .bool true) rfl (by kernel_rfl) (by kernel_rfl) (by kernel_rfl) (fun _ _ _ h => h) (Or.inl ⟨by rfl, fun w hSw => ?_⟩) (by assumption) ?_
                  · go_simp
                  try simp only [List.getElem_toArray, List.getElem_cons_zero, List.getElem_cons_succ, Act.put, List.setIfInBounds_toArray, List.set_cons_zero, List.set_cons_succ]
                  refine wpAnyH_take (i := 4) (v := undef) rfl (by kernel_rfl) (by kernel_rfl) (by kernel_rfl) (fun _ _ _ h => h) (Or.inr ⟨by rfl, rfl⟩) (by assumption) ?_
                  try simp only [List.getElem_toArray, List.getElem_cons_zero, List.getElem_cons_succ, Act.put, List.setIfInBounds_toArray, List.set_cons_zero, List.set_cons_succ]
                  refine wpAnyH_take (i := 5) (v := undef) rfl (by kernel_rfl) (by kernel_rfl) (by kernel_rfl) (fun _ _ _ h => h) (Or.inr ⟨by rfl, rfl⟩) (by assumption) ?_
                  try simp only [List.getElem_toArray, List.getElem_cons_zero, List.getElem_cons_succ, Act.put, List.setIfInBounds_toArray, List.set_cons_zero, List.set_cons_succ]
                  refine wpAnyH_take (i := 6) (v := undef) rfl (by kernel_rfl) (by kernel_rfl) (by kernel_rfl) (fun _ _ _ h => h) (Or.inr ⟨by rfl, rfl⟩) (by assumption) ?_
                  try simp only [List.getElem_toArray, List.getElem_cons_zero, List.getElem_cons_succ, Act.put, List.setIfInBounds_toArray, List.set_cons_zero, List.set_cons_succ]
                  refine wpAnyH_take (i := 7) (v := undef) rfl (by kernel_rfl) (by kernel_rfl) (by kernel_rfl) (fun _ _ _ h => h) (Or.inr ⟨by rfl, rfl⟩) (by assumption) ?_
                  try simp only [List.getElem_toArray, List.getElem_cons_zero, List.getElem_cons_succ, Act.put, List.setIfInBounds_toArray, List.set_cons_zero, List.set_cons_succ]
                  refine wpAnyH_take (i := 8) (v := undef) rfl (by kernel_rfl) (by kernel_rfl) (by kernel_rfl) (fun _ _ _ h => h) (Or.inr ⟨by rfl, rfl⟩) (by assumption) ?_
                  try simp only [List.getElem_toArray, List.getElem_cons_zero, List.getElem_cons_succ, Act.put, List.setIfInBounds_toArray, List.set_cons_zero, List.set_cons_succ]
                  refine wpAnyH_take (i := 9) (v := undef) rfl (by kernel_rfl) (by kernel_rfl) (by kernel_rfl) (fun _ _ _ h => h) (Or.inr ⟨by rfl, rfl⟩) (by assumption) ?_
                  try simp only [List.getElem_toArray, List.getElem_cons_zero, List.getElem_cons_succ, Act.put, List.setIfInBounds_toArray, List.set_cons_zero, List.set_cons_succ]
                  refine wpAnyH_take (i := 10) (v := undef) rfl (by kernel_rfl) (by kernel_rfl) (by kernel_rfl) (fun _ _ _ h => h) (Or.inr ⟨by rfl, rfl⟩) (by assumption) ?_
                  try simp only [List.getElem_toArray, List.getElem_cons_zero, List.getElem_cons_succ, Act.put, List.setIfInBounds_toArray, List.set_cons_zero, List.set_cons_succ]
                  refine wpAnyH_take (i := 11) (v := undef) rfl (by kernel_rfl) (by kernel_rfl) (by kernel_rfl) (fun _ _ _ h => h) (Or.inr ⟨by rfl, rfl⟩) (by assumption) ?_
                  try simp only [List.getElem_toArray, List.getElem_cons_zero, List.getElem_cons_succ, Act.put, List.setIfInBounds_toArray, List.set_cons_zero, List.set_cons_succ]
                  refine wpAnyH_take (i := 12) (v := undef) rfl (by kernel_rfl) (by kernel_rfl) (by kernel_rfl) (fun _ _ _ h => h) (Or.inr ⟨by rfl, rfl⟩) (by assumption) ?_
                  try simp only [List.getElem_toArray, List.getElem_cons_zero, List.getElem_cons_succ, Act.put, List.setIfInBounds_toArray, List.set_cons_zero, List.set_cons_succ]
                  refine wpAnyH_take (i := 13) (v := undef) rfl (by kernel_rfl) (by kernel_rfl) (by kernel_rfl) (fun _ _ _ h => h) (Or.inr ⟨by rfl, rfl⟩) (by assumption) ?_
                  try simp only [List.getElem_toArray, List.getElem_cons_zero, List.getElem_cons_succ, Act.put, List.setIfInBounds_toArray, List.set_cons_zero, List.set_cons_succ]
                  refine wpAnyH_take (i := 14) (v := .bool true) rfl (by kernel_rfl) (by kernel_rfl) (by kernel_rfl) (fun _ _ _ h => h) (Or.inl ⟨by rfl, fun w hSw => ?_⟩) (by assumption) ?_
                  · go_simp
                  try simp only [List.getElem_toArray, List.getElem_cons_zero, List.getElem_cons_succ, Act.put, List.setIfInBounds_toArray, List.set_cons_zero, List.set_cons_succ]
                  refine wpAnyH_done (by kernel_rfl) ?_ _
                  go_wp2
                  go_ret
                  exact ⟨ret_int hR7.out.symm, hB2.trans (hb9.mono hs2)⟩
                · have hlt2 : decide (q < a) = false := decide_eq_false hlq
                  have hwb := Fl.worth_before hok hA.out.1.e0 (Rat.not_lt.1 hlq)
                  obtain ⟨W, hW⟩ : ∃ x, x = Fl.worth l a q := ⟨_, rfl⟩
                  have hch := Hch.out
                  rw [← hW] at hch hwb
                  simp only [hlq, decide_false, Bool.not_false, Bool.true_and] at hch
                  have Hwb := Lib.hid hwb
                  have qn := run_neq_rt W.num W.den x 1
                  have ep : decide ((W.num, (W.den : Int)) = ((x, 1) : Int × Int)) = decide (W = (x : Rat)) := rat_pair (x := W) (y := (x : Rat))
                  rw [ep] at qn
                  clear hlq ep hwb hW
                  cases hwx : decide (W = (x : Rat)) with
                  | false =>
                    rw [hwx] at hch qn
                    simp only [Bool.false_and] at hch
                    have hR7 : Hid (R = 7) := Lib.hid (by rw [HE.out.1, ← hch]; rfl)
                    clear hch hwx
                    go_wp2_with fail
                    go_region_held3 (fun w' => w'.cell? ⟨G, 0, none⟩ = some (.int .i64 a.num) ∧ w'.cell? ⟨G, 1, none⟩ = some (.int .i64 a.den) ∧ w'.cell? ⟨T, 0, none⟩ = some (.int .i64 q.num) ∧ w'.cell? ⟨T, 1, none⟩ = some (.int .i64 q.den) ∧ w'.cell? ⟨b, off + k, none⟩ = some (.int .i64 x))
                      (first | exact ⟨c0, c1, c2, c3, hcx⟩ | exact ka | exact kb | exact kc)
                      (first
                        | (go_at_call 41; refine (rless_q q a _ HS.out.1).mono ?_; rintro e w8 ⟨rfl, hb8⟩; rw [hlt2]; have ka := And.intro (keep_cell hb8 c0) (And.intro (keep_cell hb8 c1) (And.intro (keep_cell hb8 c2) (And.intro (keep_cell hb8 c3) (keep_cell hb8 hcx)))); replace hbb := (below_drewN hbb 1).trans (hb8.mono (by have := hbb.size; exact this)); replace hIw := Ints.below (w := wq.drew) ⟨hIw.cells⟩ hb8; replace r10 := heap_keep (W := wq.drew) hb8 r10; replace r12 := heap_keep (W := wq.drew) hb8 r12)
                        | (go_at_call 65; refine (rbetween_any (Fl.units l) a q _ _ _ hIw hu HS.out.2.1 HS.out.2.2).mono ?_; rintro e w9 ⟨rfl, hb9⟩; rw [← Hwb.out]; have kb := And.intro (keep_cell hb9 ka.1) (And.intro (keep_cell hb9 ka.2.1) (And.intro (keep_cell hb9 ka.2.2.1) (And.intro (keep_cell hb9 ka.2.2.2.1) (keep_cell hb9 ka.2.2.2.2)))); replace hbb := hbb.trans (hb9.mono hbb.size); replace r10 := heap_keep hb9 r10; replace r12 := heap_keep hb9 r12)
                        | (go_at_call 38; refine (rwhole_lit x _).mono ?_; rintro e w10 ⟨rfl, hb10⟩; have kc := And.intro (keep_cell hb10 kb.1) (And.intro (keep_cell hb10 kb.2.1) (And.intro (keep_cell hb10 kb.2.2.1) (And.intro (keep_cell hb10 kb.2.2.2.1) (keep_cell hb10 kb.2.2.2.2)))); replace hbb := hbb.trans (hb10.mono hbb.size); replace r10 := heap_keep hb10 r10; replace r12 := heap_keep hb10 r12))
                    go_wp2
                    go_ret
                    exact ⟨ret_int hR7.out.symm, hB2.trans (hbb.mono hs2)⟩
                  | true =>
                    rw [hwx] at hch qn
                    simp only [Bool.true_and] at hch
                    have HA2 := Lib.hid (And.intro Hq.out hch)
                    clear hch hwx
                    go_wp2_with fail
                    go_region_held3 (fun w' => w'.cell? ⟨G, 0, none⟩ = some (.int .i64 a.num) ∧ w'.cell? ⟨G, 1, none⟩ = some (.int .i64 a.den) ∧ w'.cell? ⟨T, 0, none⟩ = some (.int .i64 q.num) ∧ w'.cell? ⟨T, 1, none⟩ = some (.int .i64 q.den) ∧ w'.cell? ⟨b, off + k, none⟩ = some (.int .i64 x))
                      (first | exact ⟨c0, c1, c2, c3, hcx⟩ | exact ka | exact kb | exact kc)
                      (first
                        | (go_at_call 41; refine (rless_q q a _ HS.out.1).mono ?_; rintro e w8 ⟨rfl, hb8⟩; rw [hlt2]; have ka := And.intro (keep_cell hb8 c0) (And.intro (keep_cell hb8 c1) (And.intro (keep_cell hb8 c2) (And.intro (keep_cell hb8 c3) (keep_cell hb8 hcx)))); replace hbb := (below_drewN hbb 1).trans (hb8.mono (by have := hbb.size; exact this)); replace hIw := Ints.below (w := wq.drew) ⟨hIw.cells⟩ hb8; replace r10 := heap_keep (W := wq.drew) hb8 r10; replace r12 := heap_keep (W := wq.drew) hb8 r12)
                        | (go_at_call 65; refine (rbetween_any (Fl.units l) a q _ _ _ hIw hu HS.out.2.1 HS.out.2.2).mono ?_; rintro e w9 ⟨rfl, hb9⟩; rw [← Hwb.out]; have kb := And.intro (keep_cell hb9 ka.1) (And.intro (keep_cell hb9 ka.2.1) (And.intro (keep_cell hb9 ka.2.2.1) (And.intro (keep_cell hb9 ka.2.2.2.1) (keep_cell hb9 ka.2.2.2.2)))); replace hbb := hbb.trans (hb9.mono hbb.size); replace r10 := heap_keep hb9 r10; replace r12 := heap_keep hb9 r12)
                        | (go_at_call 38; refine (rwhole_lit x _).mono ?_; rintro e w10 ⟨rfl, hb10⟩; have kc := And.intro (keep_cell hb10 kb.1) (And.intro (keep_cell hb10 kb.2.1) (And.intro (keep_cell hb10 kb.2.2.1) (And.intro (keep_cell hb10 kb.2.2.2.1) (keep_cell hb10 kb.2.2.2.2)))); replace hbb := hbb.trans (hb10.mono hbb.size); replace r10 := heap_keep hb10 r10; replace r12 := heap_keep hb10 r12))
                    clear c0 c1 c2 c3 ka kb kc hcx
                    obtain ⟨⟨c0, c1⟩, f0, f1⟩ := row_fr r10
                    obtain ⟨⟨c2, c3⟩, -, -⟩ := row_fr r12
                    go_wp2
                    go_roundw
                    case rel => exact ⟨k + 1, by omega, by go_num, q, HA2, two_cells r10 _ _, below_setCell (below_setCell hbb (by omega) _) (by omega) _⟩
                    case measure => simp [intOf]; omega
            · have hk2 : k = m := by omega
              have hR0 : Hid (R = 0) := Lib.hid (by
                have h1 := hA.out.2
                rw [hk2, Hm.out, List.drop_length, Fl.chain_end] at h1
                rw [HE.out.1, ← h1]; rfl)
              clear hk2
              go_wp2
              go_ret
              exact ⟨ret_int hR0.out.symm, hB2.trans (hb.mono hs2)⟩
    · have hR1 : Hid (R = 1) := Lib.hid (HR.out.symm.trans (Fl.checkC_len HC.out (by have := Hm.out; have := Hr.out; omega)))
      go_wp2
      go_ret
      exact ⟨ret_int hR1.out.symm, hB⟩
  · have hR1 : Hid (R = C) := Lib.hid (HR.out.symm.trans ((Fl.checkC_parts (by rw [HC.out]; exact code_ne hC0)).trans HC.out))
    go_wp2
    go_ret
    exact ⟨ret_int hR1.out.symm, hB⟩
end Go.Proofs.Ytkpabehjehbidaa
