import Derived.Test.YtemlfklipkpacaaNb
import Derived.Test.YtemlfklipkpacaaNc
import Derived.Test.YtemlfklipkpacaaKy
/- The law KnifeEvens: the pieces with which two owners have the same part. -/
namespace Go.Proofs.Ytemlfklipkpacaa
open Go.RowKit

theorem lng_no {nL nV : Nat} {V : List (List Int)} (h : Kn.lng nL nV V = false) : nL ≤ 100 ∧ nV ≤ 100 ∧ ∀ r ∈ V, r.length ≤ 100 := by
  unfold Kn.lng at h
  rw [Bool.or_eq_false_iff, Bool.or_eq_false_iff, decide_eq_false_iff_not, decide_eq_false_iff_not, List.any_eq_false] at h
  refine ⟨by omega, by omega, fun r hr => ?_⟩
  have := h.2.2 r hr
  simpa using this
/-- What KnifeEvens looks at. -/
theorem evens_facts {L : List Int} {V : List (List Int)} {C : Int} (hC : Kn.val2 L V = C) {E : List Pc} (hE : Kn.evL L V = E) :
    E.length ≤ 2 ∧ (∀ p ∈ E, p.2.1.1 ≤ 9223372036854775807 ∧ p.2.2.1 ≤ 9223372036854775807) ∧ (C = 0 → Kn.pcode L V E = 0 ∧ ∃ z, Kn.prL L V E = [z, z]) := by
  by_cases h0 : C = 0
  · rw [h0] at hC
    obtain ⟨hok, h2⟩ := val2_ok hC
    obtain ⟨q, hq⟩ := even_some hok h2
    obtain ⟨q0, q1, qd, -⟩ := even_facts hok h2 hq
    obtain ⟨p0, z, hz⟩ := even_right hok h2 hq
    have hst := hok.stopB
    have hEe : E = [(0, (0, 1), pr q), (1, pr q, (Kn.stop L, 1))] := by
      rw [← hE]; unfold Kn.evL; rw [if_pos hC, hq]; rfl
    have hq2 : q ≤ ((120 : Nat) : Rat) := Rat.le_trans q1 (by
      have : (Kn.stop L : Rat) ≤ ((120 : Int) : Rat) := Rat.intCast_le_intCast.2 hst.2
      exact this)
    have hn := Fl.num_le hq2
    rw [hEe]
    refine ⟨by simp, fun p hp => ?_, fun _ => ⟨p0, z, ?_⟩⟩
    · simp only [List.mem_cons, List.not_mem_nil, or_false] at hp
      rcases hp with rfl | rfl
      · exact ⟨by simp, by show q.num ≤ _; omega⟩
      · exact ⟨by show q.num ≤ _; omega, by show Kn.stop L ≤ _; omega⟩
    · unfold Kn.prL
      rw [if_pos p0]; exact hz
  · have hEe : E = [] := by rw [← hE]; unfold Kn.evL; rw [if_neg (by rw [hC]; exact h0)]
    rw [hEe]
    exact ⟨by simp, fun p hp => (by cases hp), fun h => absurd h h0⟩

set_option maxRecDepth 100000 in
set_option maxHeartbeats 8000000 in
theorem knifeEvens_any (L : List Int) (aoL : Option Addr) (nL cL : Nat) (V : List (List Int)) (aoV : Option Addr) (nV cV : Nat) (w : World) (hf : Fld w aoL nL aoV nV L V) :
    Calls Try.prog 11 #[.agg #[.slice aoL nL cL, .slice aoV nV cV]] w fun e w' => e = .returned (.bool true) ∧ Below w.heap.size w w' := by
  have hA := (Below.refl _ w).alloc (Nat.le_refl _) (.cells #[.slice aoL nL cL, .slice aoV nV cV] 57)
  have rf := heap_alloc_new w (.cells #[.slice aoL nL cL, .slice aoV nV cV] 57)
  go_enter Try.func11, Try.ntmps11
  go_upto_region 1 with fail
  generalize w.alloc (.cells #[.slice aoL nL cL, .slice aoV nV cV] 57) = W0 at hA rf ⊢
  replace hf := hf.below hA
  obtain ⟨⟨x0, x1⟩, -, -⟩ := row_fr rf
  go_wp2_with fail
  refine ((klong_any L V _ _ _ _ _ _ W0 hf)).mono ?_
  rintro e w1 ⟨rfl, hbb⟩
  replace hf := hf.below hbb
  replace rf := heap_keep hbb rf
  replace hA := hA.trans (hbb.mono hA.size)
  clear hbb
  clear x0 x1
  cases hlg : Kn.lng nL nV V with
  | true =>
    go_wp2_with fail
    refine ((kknown_any w1)).mono ?_
    rintro e w2 ⟨rfl, hbb⟩
    replace hf := hf.below hbb
    replace rf := heap_keep hbb rf
    replace hA := hA.trans (hbb.mono hA.size)
    clear hbb
    go_wp2_with fail
    go_ret
    exact ⟨rfl, hA⟩
  | false =>
    obtain ⟨hl, hv, hr⟩ := lng_no hlg
    clear hlg
    obtain ⟨⟨x0, x1⟩, -, -⟩ := row_fr rf
    obtain ⟨C, hC⟩ : ∃ c, Kn.val2 L V = c := ⟨_, rfl⟩
    obtain ⟨E, hE⟩ : ∃ l, Kn.evL L V = l := ⟨_, rfl⟩
    have HF := Lib.hid (evens_facts hC hE)
    have hK1 := kEven_any L V aoL nL cL aoV nV cV w1 hf hl hv hr
    have hK2 := fun w' (hf' : Fld w' aoL nL aoV nV L V) => sEven_any L V aoL nL cL aoV nV cV w' hf' hl hv hr
    rw [hC, hE] at hK1 hK2
    have HK2 := Lib.hid hK2
    clear hC hE hK2
    go_wp2_with fail
    refine hK1.mono ?_
    rintro e w2 ⟨v1, rfl, o1, hb1⟩
    obtain ⟨a1, c1, rfl, P1⟩ := own_pcs o1 rfl
    replace hf := hf.below hb1
    replace rf := heap_keep hb1 rf
    replace hA := hA.trans (hb1.mono hA.size)
    clear hb1 x0 x1 o1 hK1
    obtain ⟨⟨x0, x1⟩, -, -⟩ := row_fr rf
    go_wp2_with fail
    refine (HK2.out w2 hf).mono ?_
    rintro e w3 ⟨v2, rfl, o2, hb1⟩
    obtain ⟨a2, c2, rfl, P2⟩ := own_pcs o2 rfl
    replace P1 := P1.below hb1
    replace hf := hf.below hb1
    replace rf := heap_keep hb1 rf
    replace hA := hA.trans (hb1.mono hA.size)
    clear hb1 x0 x1 o2 HK2
    obtain ⟨r, hr5⟩ : ∃ r, r = E.length := ⟨_, rfl⟩
    rw [← hr5]
    have Hr := Lib.hid hr5
    have h5 : r ≤ 2 := by rw [hr5]; exact HF.out.1
    clear hr5
    have e9 : (C != C) = false := by simp
    go_wp2_with fail
    refine (samePieces_any E E _ _ _ _ _ _ _ P1 P2 Hr.out Hr.out (by omega) (by omega)).mono ?_
    rintro e w4 ⟨rfl, hb1⟩
    rw [decide_eq_true rfl]
    replace P1 := P1.below hb1
    replace hf := hf.below hb1
    replace rf := heap_keep hb1 rf
    replace hA := hA.trans (hb1.mono hA.size)
    clear hb1 P2
    by_cases hz : C = 0
    · subst hz
      obtain ⟨hp0, z, hzz⟩ := HF.out.2.2 rfl
      have hKP := kParts_any L V E aoL nL cL aoV nV cV a1 r c1 w4 hf hl hv hr P1 Hr.out (by omega) HF.out.2.1
      rw [hp0, hzz] at hKP
      clear hp0 hzz
      obtain ⟨⟨x0, x1⟩, -, -⟩ := row_fr rf
      go_wp2_with fail
      refine hKP.mono ?_
      rintro e w5 ⟨v3, rfl, o3, hb1⟩
      obtain ⟨a3, c3, rfl, -, P3⟩ := own_pts2 o3 rfl
      replace hf := hf.below hb1
      replace rf := heap_keep hb1 rf
      replace hA := hA.trans (hb1.mono hA.size)
      clear hb1 x0 x1 o3 hKP P1
      obtain ⟨b, off, rfl, hbs, hc⟩ := P3.cells (by simp)
      obtain ⟨p0, p1⟩ := hc 0 (by simp)
      obtain ⟨p2, p3⟩ := hc 1 (by simp)
      obtain ⟨z1, z2⟩ := z
      simp at p0 p1 p2 p3
      clear hc P3
      have heq := run_eq_rt z1 z2 z1 z2
      rw [decide_eq_true rfl] at heq
      go_upto_region 10 with fail
      have hdr : Below w5.heap.size w5 w5.drew := below_drewN (Below.refl w5.heap.size w5) 1
      have d0 := keep_cell hdr p0
      have d1 := keep_cell hdr p1
      have d2 := keep_cell hdr p2
      have d3 := keep_cell hdr p3
      refine wp_region_held_drew (S := fun w' => w'.cell? ⟨b, off, none⟩ = some (.int .i64 z1) ∧ w'.cell? ⟨b, off + 1, none⟩ = some (.int .i64 z2) ∧ w'.cell? ⟨b, off + 2, none⟩ = some (.int .i64 z1) ∧ w'.cell? ⟨b, off + 3, none⟩ = some (.int .i64 z2)) (by kernel_rfl) ⟨d0, d1, d2, d3⟩ (fun hHeld => ?_)
      refine wpAnyH_take (i := 0) (v := .int .i64 0) rfl (by kernel_rfl) (by kernel_rfl) (by kernel_rfl) (fun _ _ _ h => h) (Or.inl ⟨by rfl, fun w hSw => ?_⟩) (by assumption) ?_
      · obtain ⟨s0, s1, s2, s3⟩ := hSw
        (go_simp <;> omega)
      try simp only [List.getElem_toArray, List.getElem_cons_zero, Act.put, List.setIfInBounds_toArray, List.set_cons_zero, List.set_cons_succ]
      refine wpAnyH_take (i := 1) (v := .bool true) rfl (by kernel_rfl) (by kernel_rfl) (by kernel_rfl) (fun _ _ _ h => h) (Or.inl ⟨by rfl, fun w hSw => ?_⟩) (by assumption) ?_
      · obtain ⟨s0, s1, s2, s3⟩ := hSw
        (go_simp <;> omega)
      try simp only [List.getElem_toArray, List.getElem_cons_zero, List.getElem_cons_succ, Act.put, List.setIfInBounds_toArray, List.set_cons_zero, List.set_cons_succ]
      refine wpAnyH_take (i := 2) (v := .bool true) rfl (by kernel_rfl) (by kernel_rfl) (by kernel_rfl) (fun _ _ _ h => h) (Or.inl ⟨by rfl, fun w hSw => ?_⟩) (by assumption) ?_
      · obtain ⟨s0, s1, s2, s3⟩ := hSw
        (go_simp <;> omega)
      try simp only [List.getElem_toArray, List.getElem_cons_zero, List.getElem_cons_succ, Act.put, List.setIfInBounds_toArray, List.set_cons_zero, List.set_cons_succ]
      refine wpAnyH_take (i := 3) (v := .slice (some ⟨b, off, none⟩) 2 c3) rfl (by kernel_rfl) (by kernel_rfl) (by kernel_rfl) (fun _ _ _ h => h) (Or.inl ⟨by rfl, fun w hSw => ?_⟩) (by assumption) ?_
      · obtain ⟨s0, s1, s2, s3⟩ := hSw
        (go_simp <;> omega)
      try simp only [List.getElem_toArray, List.getElem_cons_zero, List.getElem_cons_succ, Act.put, List.setIfInBounds_toArray, List.set_cons_zero, List.set_cons_succ]
      refine wpAnyH_take (i := 4) (v := .int .i64 2) rfl (by kernel_rfl) (by kernel_rfl) (by kernel_rfl) (fun _ _ _ h => h) (Or.inl ⟨by rfl, fun w hSw => ?_⟩) (by assumption) ?_
      · obtain ⟨s0, s1, s2, s3⟩ := hSw
        (go_simp <;> omega)
      try simp only [List.getElem_toArray, List.getElem_cons_zero, List.getElem_cons_succ, Act.put, List.setIfInBounds_toArray, List.set_cons_zero, List.set_cons_succ]
      refine wpAnyH_take (i := 5) (v := .bool true) rfl (by kernel_rfl) (by kernel_rfl) (by kernel_rfl) (fun _ _ _ h => h) (Or.inl ⟨by rfl, fun w hSw => ?_⟩) (by assumption) ?_
      · obtain ⟨s0, s1, s2, s3⟩ := hSw
        (go_simp <;> omega)
      try simp only [List.getElem_toArray, List.getElem_cons_zero, List.getElem_cons_succ, Act.put, List.setIfInBounds_toArray, List.set_cons_zero, List.set_cons_succ]
      refine wpAnyH_take (i := 6) (v := .bool true) rfl (by kernel_rfl) (by kernel_rfl) (by kernel_rfl) (fun _ _ _ h => h) (Or.inl ⟨by rfl, fun w hSw => ?_⟩) (by assumption) ?_
      · obtain ⟨s0, s1, s2, s3⟩ := hSw
        (go_simp <;> omega)
      try simp only [List.getElem_toArray, List.getElem_cons_zero, List.getElem_cons_succ, Act.put, List.setIfInBounds_toArray, List.set_cons_zero, List.set_cons_succ]
      refine wpAnyH_take (i := 7) (v := .bool true) rfl (by kernel_rfl) (by kernel_rfl) (by kernel_rfl) (fun _ _ _ h => h) (Or.inl ⟨by rfl, fun w hSw => ?_⟩) (by assumption) ?_
      · obtain ⟨s0, s1, s2, s3⟩ := hSw
        (go_simp <;> omega)
      try simp only [List.getElem_toArray, List.getElem_cons_zero, List.getElem_cons_succ, Act.put, List.setIfInBounds_toArray, List.set_cons_zero, List.set_cons_succ]
      refine wpAnyH_take (i := 8) (v := .slice (some ⟨b, off, none⟩) 2 c3) rfl (by kernel_rfl) (by kernel_rfl) (by kernel_rfl) (fun _ _ _ h => h) (Or.inl ⟨by rfl, fun w hSw => ?_⟩) (by assumption) ?_
      · obtain ⟨s0, s1, s2, s3⟩ := hSw
        (go_simp <;> omega)
      try simp only [List.getElem_toArray, List.getElem_cons_zero, List.getElem_cons_succ, Act.put, List.setIfInBounds_toArray, List.set_cons_zero, List.set_cons_succ]
      refine wpAnyH_take (i := 9) (v := .pointer (some ⟨b, off, none⟩)) rfl (by kernel_rfl) (by kernel_rfl) (by kernel_rfl) (fun _ _ _ h => h) (Or.inl ⟨by rfl, fun w hSw => ?_⟩) (by assumption) ?_
      · obtain ⟨s0, s1, s2, s3⟩ := hSw
        (go_simp <;> omega)
      try simp only [List.getElem_toArray, List.getElem_cons_zero, List.getElem_cons_succ, Act.put, List.setIfInBounds_toArray, List.set_cons_zero, List.set_cons_succ]
      refine wpAnyH_take (i := 10) (v := .agg #[.int .i64 z1, .int .i64 z2]) rfl (by kernel_rfl) (by kernel_rfl) (by kernel_rfl) (fun _ _ _ h => h) (Or.inl ⟨by rfl, fun w hSw => ?_⟩) (by assumption) ?_
      · obtain ⟨s0, s1, s2, s3⟩ := hSw
        (go_simp <;> omega)
      try simp only [List.getElem_toArray, List.getElem_cons_zero, List.getElem_cons_succ, Act.put, List.setIfInBounds_toArray, List.set_cons_zero, List.set_cons_succ]
      refine wpAnyH_take (i := 11) (v := .slice (some ⟨b, off, none⟩) 2 c3) rfl (by kernel_rfl) (by kernel_rfl) (by kernel_rfl) (fun _ _ _ h => h) (Or.inl ⟨by rfl, fun w hSw => ?_⟩) (by assumption) ?_
      · obtain ⟨s0, s1, s2, s3⟩ := hSw
        (go_simp <;> omega)
      try simp only [List.getElem_toArray, List.getElem_cons_zero, List.getElem_cons_succ, Act.put, List.setIfInBounds_toArray, List.set_cons_zero, List.set_cons_succ]
      refine wpAnyH_take (i := 12) (v := .pointer (some ⟨b, off + 2, none⟩)) rfl (by kernel_rfl) (by kernel_rfl) (by kernel_rfl) (fun _ _ _ h => h) (Or.inl ⟨by rfl, fun w hSw => ?_⟩) (by assumption) ?_
      · obtain ⟨s0, s1, s2, s3⟩ := hSw
        (go_simp <;> omega)
      try simp only [List.getElem_toArray, List.getElem_cons_zero, List.getElem_cons_succ, Act.put, List.setIfInBounds_toArray, List.set_cons_zero, List.set_cons_succ]
      refine wpAnyH_take (i := 13) (v := .agg #[.int .i64 z1, .int .i64 z2]) rfl (by kernel_rfl) (by kernel_rfl) (by kernel_rfl) (fun _ _ _ h => h) (Or.inl ⟨by rfl, fun w hSw => ?_⟩) (by assumption) ?_
      · obtain ⟨s0, s1, s2, s3⟩ := hSw
        (go_simp <;> omega)
      try simp only [List.getElem_toArray, List.getElem_cons_zero, List.getElem_cons_succ, Act.put, List.setIfInBounds_toArray, List.set_cons_zero, List.set_cons_succ]
      refine wpAnyH_take (i := 14) (v := .bool true) rfl (by kernel_rfl) (by kernel_rfl) (by kernel_rfl) (fun _ _ _ h => h) (Or.inl ⟨by rfl, fun w hSw => ?_⟩) (by assumption) ?_
      · obtain ⟨s0, s1, s2, s3⟩ := hSw
        (go_simp <;> omega)
      try simp only [List.getElem_toArray, List.getElem_cons_zero, List.getElem_cons_succ, Act.put, List.setIfInBounds_toArray, List.set_cons_zero, List.set_cons_succ]
      refine wpAnyH_take (i := 15) (v := .bool true) rfl (by kernel_rfl) (by kernel_rfl) (by kernel_rfl) (fun _ _ _ h => h) (Or.inl ⟨by rfl, fun w hSw => ?_⟩) (by assumption) ?_
      · obtain ⟨s0, s1, s2, s3⟩ := hSw
        (go_simp <;> omega)
      try simp only [List.getElem_toArray, List.getElem_cons_zero, List.getElem_cons_succ, Act.put, List.setIfInBounds_toArray, List.set_cons_zero, List.set_cons_succ]
      refine wpAnyH_take (i := 16) (v := .bool true) rfl (by kernel_rfl) (by kernel_rfl) (by kernel_rfl) (fun _ _ _ h => h) (Or.inl ⟨by rfl, fun w hSw => ?_⟩) (by assumption) ?_
      · obtain ⟨s0, s1, s2, s3⟩ := hSw
        (go_simp <;> omega)
      try simp only [List.getElem_toArray, List.getElem_cons_zero, List.getElem_cons_succ, Act.put, List.setIfInBounds_toArray, List.set_cons_zero, List.set_cons_succ]
      refine wpAnyH_ready (rs := [17]) (by kernel_rfl) (by simp) ?_
      refine AllReadyH.cons rfl (fun K hK => ?_) AllReadyH.nil
      go_simp
      go_at_call 42
      refine (kknown_any _).mono ?_
      rintro e w6 ⟨rfl, hb6⟩
      have hb6' := hdr.trans (hb6.mono hdr.size)
      (try dsimp only)
      refine hK.out _ _ ⟨keep_cell hb6' p0, keep_cell hb6' p1, keep_cell hb6' p2, keep_cell hb6' p3⟩ (fun hHeld => ?_)
      clear hK K
      try simp only [List.getElem_toArray, List.getElem_cons_zero, List.getElem_cons_succ, Act.put, List.setIfInBounds_toArray, List.set_cons_zero, List.set_cons_succ]
      refine wpAnyH_take (i := 18) (v := .bool true) rfl (by kernel_rfl) (by kernel_rfl) (by kernel_rfl) (fun _ _ _ h => h) (Or.inl ⟨by rfl, fun w hSw => ?_⟩) (by assumption) ?_
      · obtain ⟨s0, s1, s2, s3⟩ := hSw
        (go_simp <;> omega)
      try simp only [List.getElem_toArray, List.getElem_cons_zero, List.getElem_cons_succ, Act.put, List.setIfInBounds_toArray, List.set_cons_zero, List.set_cons_succ]
      refine wpAnyH_take (i := 19) (v := .bool true) rfl (by kernel_rfl) (by kernel_rfl) (by kernel_rfl) (fun _ _ _ h => h) (Or.inl ⟨by rfl, fun w hSw => ?_⟩) (by assumption) ?_
      · obtain ⟨s0, s1, s2, s3⟩ := hSw
        (go_simp <;> omega)
      try simp only [List.getElem_toArray, List.getElem_cons_zero, List.getElem_cons_succ, Act.put, List.setIfInBounds_toArray, List.set_cons_zero, List.set_cons_succ]
      refine wpAnyH_done (by kernel_rfl) ?_ _
      go_wp2_with fail
      go_ret
      exact ⟨rfl, hA.trans (hb6'.mono hA.size)⟩
    · have hne : (C != 0) = true := by simp [hz]
      go_wp2_with fail
      refine (kknown_any w4).mono ?_
      rintro e w5 ⟨rfl, hb1⟩
      go_wp2_with fail
      go_ret
      exact ⟨rfl, hA.trans (hb1.mono hA.size)⟩
end Go.Proofs.Ytemlfklipkpacaa
