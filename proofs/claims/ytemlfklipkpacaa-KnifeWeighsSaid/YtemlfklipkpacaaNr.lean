import Derived.Test.YtemlfklipkpacaaNp
import Derived.Test.YtemlfklipkpacaaLf
/- The reference of package knife: Same of equal fields. -/
namespace Go.Proofs.Ytemlfklipkpacaa
open Go.RowKit

theorem list_neI {k1 k2 : List Int} {k : Nat} (h1 : k < k1.length) (h2 : k < k2.length) (h : k1[k] ≠ k2[k]) : decide (k1 = k2) = false := by
  rw [decide_eq_false_iff_not]
  rintro rfl
  exact h rfl
set_option maxRecDepth 100000 in
set_option maxHeartbeats 1000000 in
theorem sameInts_any (u v : List Int) (ao : Option Addr) (n cap : Nat) (ao2 : Option Addr) (m cap2 : Nat) (w : World) (hI : Ints w ao u) (hln : n = u.length) (hI2 : Ints w ao2 v) (hlm : m = v.length) (hn : n ≤ 100000) (_ : m ≤ 100000) :
    Calls Try.prog 117 #[.slice ao n cap, .slice ao2 m cap2] w fun e w' => e = .returned (.bool (decide (u = v))) ∧ Below w.heap.size w w' := by
  have Hn := Lib.hid hln
  have Hm := Lib.hid hlm
  clear hln hlm
  by_cases hne : n = m
  · subst hne
    go_enter Try.func117, Try.ntmps117
    go_wp2
    go_loopw [5] (fun i wr => ∃ k : Nat, k ≤ n ∧ i = .int .i64 k ∧ Hid (∀ j, j < k → u.getD j 0 = v.getD j 0) ∧ Below w.heap.size w wr) (fun i _ => n - (intOf i).toNat)
    case atStart => exact ⟨0, Nat.zero_le _, rfl, Lib.hid (fun j hj => by omega), Below.refl _ _⟩
    case round =>
      obtain ⟨k, hk, rfl, hall, hb⟩ := hrel
      by_cases hlt : k < n
      · obtain ⟨ba, oa, rfl, ha, hca⟩ := hI.at (k := k) (by have := Hn.out; omega)
        obtain ⟨bb, ob, rfl, hbl, hcb⟩ := hI2.at (k := k) (by have := Hm.out; omega)
        replace hca := keep_cell hb hca
        replace hcb := keep_cell hb hcb
        have ku : k < u.length := by have := Hn.out; omega
        have kv : k < v.length := by have := Hm.out; omega
        have eu : u.getD k 0 = u[k] := by rw [List.getD_eq_getElem?_getD, List.getElem?_eq_getElem ku]; rfl
        have ev : v.getD k 0 = v[k] := by rw [List.getD_eq_getElem?_getD, List.getElem?_eq_getElem kv]; rfl
        have hnq := Lib.hid (fun h => list_neI ku kv h)
        rw [← eu, ← ev] at hnq
        obtain ⟨x, hx⟩ : ∃ x, x = u.getD k 0 := ⟨_, rfl⟩
        obtain ⟨y, hy⟩ : ∃ x, x = v.getD k 0 := ⟨_, rfl⟩
        rw [← hx] at hca hnq
        rw [← hy] at hcb hnq
        have HX := Lib.hid (And.intro hx hy)
        have i1 : (k : Int) < (n : Int) := by omega
        clear hx hy eu ev ku kv
        by_cases hyz : x = y
        · subst hyz
          go_wp2_with fail
          go_quiet (fail)
          go_wp2
          go_roundw
          case rel =>
            refine ⟨k + 1, by omega, by go_num, Lib.hid fun j hj => ?_, below_drewN hb _⟩
            by_cases e : j = k
            · subst e; rw [← HX.out.1, ← HX.out.2]
            · exact hall.out j (by omega)
          case measure => simp [intOf]; omega
        · have hyzb : (x != y) = true := by simpa using hyz
          have hR := Lib.hid (hnq.out hyz)
          clear hyz
          go_wp2_with fail
          go_quiet (fail)
          go_wp2
          go_ret
          exact ⟨ret_bool hR.out.symm, below_drewN hb _⟩
      · have hR : Hid (decide (u = v) = true) := Lib.hid (by
          rw [decide_eq_true_eq]
          apply List.ext_getElem (by rw [← Hn.out, ← Hm.out])
          intro i h1 h2
          have := hall.out i (by have := Hn.out; omega)
          rw [List.getD_eq_getElem?_getD, List.getElem?_eq_getElem h1, List.getD_eq_getElem?_getD, List.getElem?_eq_getElem h2] at this
          exact this)
        go_wp2
        go_ret
        exact ⟨ret_bool hR.out.symm, hb⟩
  · have hne2 : ((n : Int) != (m : Int)) = true := by simp; omega
    have hR : Hid (decide (u = v) = false) := Lib.hid (by
      rw [decide_eq_false_iff_not]
      rintro rfl
      exact hne (by rw [Hn.out, Hm.out]))
    clear hne
    go_enter Try.func117, Try.ntmps117
    go_wp2
    go_ret
    exact ⟨ret_bool hR.out.symm, Below.refl _ _⟩

set_option maxRecDepth 100000 in
set_option maxHeartbeats 8000000 in
theorem sSame_yes (L : List Int) (V : List (List Int)) (aoL : Option Addr) (nL cL : Nat) (aoV : Option Addr) (nV cV : Nat) (bL : Option Addr) (dL : Nat) (bV : Option Addr) (dV : Nat) (w : World) (hf : Fld w aoL nL aoV nV L V) (hg : Fld w bL nL bV nV L V) (hl : nL ≤ 100) (hv : nV ≤ 100) (hr : ∀ r ∈ V, r.length ≤ 100) :
    Calls Try.prog 57 #[.agg #[.slice aoL nL cL, .slice aoV nV cV], .agg #[.slice bL nL dL, .slice bV nV dV]] w fun e w' => e = .returned (.bool true) ∧ Below w.heap.size w w' := by
  have HnL := Lib.hid hf.nl
  have HnV := Lib.hid hf.nv
  have hA := below_alloc2 w (.cells #[.slice aoL nL cL, .slice aoV nV cV] 57) (.cells #[.slice bL nL dL, .slice bV nV dV] 57)
  have rf := heap_alloc2_old w (.cells #[.slice aoL nL cL, .slice aoV nV cV] 57) (.cells #[.slice bL nL dL, .slice bV nV dV] 57)
  have rg := heap_alloc2_new w (.cells #[.slice aoL nL cL, .slice aoV nV cV] 57) (.cells #[.slice bL nL dL, .slice bV nV dV] 57)
  go_enter Try.func57, Try.ntmps57
  go_upto_region 1 with fail
  generalize (w.alloc (.cells #[.slice aoL nL cL, .slice aoV nV cV] 57)).alloc (.cells #[.slice bL nL dL, .slice bV nV dV] 57) = W0 at hA rf rg ⊢
  obtain ⟨G, hG⟩ : ∃ g, g = w.heap.size := ⟨_, rfl⟩
  rw [← hG] at rf rg ⊢
  have HG := Lib.hid hG
  clear hG
  replace hf := hf.below hA
  replace hg := hg.below hA
  obtain ⟨⟨x0, x1⟩, -, -⟩ := row_fr rf
  obtain ⟨⟨y0, y1⟩, -, -⟩ := row_fr rg
  go_wp2_with fail
  refine (sameInts_any L L aoL nL cL bL nL dL W0 hf.hL HnL.out hg.hL HnL.out (by omega) (by omega)).mono ?_
  rintro e w1 ⟨rfl, hbb⟩
  rw [decide_eq_true rfl]
  replace hf := hf.below hbb
  replace hg := hg.below hbb
  replace rf := heap_keep hbb rf
  replace rg := heap_keep hbb rg
  replace hA := hA.trans (hbb.mono hA.size)
  clear hbb x0 x1 y0 y1
  obtain ⟨⟨x0, x1⟩, -, -⟩ := row_fr rf
  obtain ⟨⟨y0, y1⟩, -, -⟩ := row_fr rg
  have hne : ((nV : Int) != (nV : Int)) = false := by simp
  go_wp2_with fail
  clear x0 x1 y0 y1
  go_loopw [5] (fun i wr => ∃ k : Nat, k ≤ nV ∧ i = .int .i64 k ∧ Below w1.heap.size w1 wr) (fun i _ => nV - (intOf i).toNat)
  case atStart => exact ⟨0, Nat.zero_le _, rfl, Below.refl _ _⟩
  case round =>
    obtain ⟨k, hk, rfl, hb⟩ := hrel
    obtain ⟨⟨x0, x1⟩, -, -⟩ := row_fr (heap_keep hb rf)
    obtain ⟨⟨y0, y1⟩, -, -⟩ := row_fr (heap_keep hb rg)
    by_cases hlt : k < nV
    · have hkV : k < V.length := by have := HnV.out; omega
      have i1 : (k : Int) < (nV : Int) := by omega
      obtain ⟨b1, o1, a1, c1, e1, z1, -, I1⟩ := (hf.below hb).hV.at hkV
      obtain ⟨b2, o2, a2, c2, e2, z2, -, I2⟩ := (hg.below hb).hV.at hkV
      subst e1 e2
      have hrk := hr (V.getD k []) (by rw [List.getD_eq_getElem?_getD, List.getElem?_eq_getElem hkV]; exact List.getElem_mem hkV)
      generalize V.getD k [] = lk at z1 z2 I1 I2 hrk
      obtain ⟨m, hm⟩ : ∃ m, m = lk.length := ⟨_, rfl⟩
      have Hm := Lib.hid hm
      rw [← hm] at z1 z2 hrk
      clear hm
      have hSa := fun w' (hb' : Below wr.heap.size wr w') => sameInts_any lk lk a1 m c1 a2 m c2 w' (I1.below hb') Hm.out (I2.below hb') Hm.out (by omega) (by omega)
      rw [decide_eq_true rfl] at hSa
      have HSa := Lib.hid hSa
      clear hSa
      go_upto_region 6 with fail
      have hdr : Below wr.heap.size wr wr.drew := below_drewN (Below.refl wr.heap.size wr) 1
      refine wp_region_held_drew (S := fun w' => w'.cell? ⟨G, 1, none⟩ = some (.slice (some ⟨b1, o1, none⟩) nV cV) ∧ w'.cell? ⟨G + 1, 1, none⟩ = some (.slice (some ⟨b2, o2, none⟩) nV dV) ∧ w'.cell? ⟨b1, o1 + k, none⟩ = some (.slice a1 m c1) ∧ w'.cell? ⟨b2, o2 + k, none⟩ = some (.slice a2 m c2)) (by kernel_rfl) ⟨keep_cell hdr x1, keep_cell hdr y1, keep_cell hdr z1, keep_cell hdr z2⟩ (fun hHeld => ?_)
      refine wpAnyH_take (i := 0) (v := .pointer (some ⟨G, 1, none⟩)) rfl (by kernel_rfl) (by kernel_rfl) (by kernel_rfl) (fun _ _ _ h => h) (Or.inl ⟨by rfl, fun w hSw => ?_⟩) (by assumption) ?_
      · obtain ⟨s0, s1, s2, s3⟩ := hSw
        (go_simp <;> omega)
      try simp only [List.getElem_toArray, List.getElem_cons_zero, Act.put, List.setIfInBounds_toArray, List.set_cons_zero, List.set_cons_succ]
      refine wpAnyH_take (i := 1) (v := .slice (some ⟨b1, o1, none⟩) nV cV) rfl (by kernel_rfl) (by kernel_rfl) (by kernel_rfl) (fun _ _ _ h => h) (Or.inl ⟨by rfl, fun w hSw => ?_⟩) (by assumption) ?_
      · obtain ⟨s0, s1, s2, s3⟩ := hSw
        (go_simp <;> omega)
      try simp only [List.getElem_toArray, List.getElem_cons_zero, List.getElem_cons_succ, Act.put, List.setIfInBounds_toArray, List.set_cons_zero, List.set_cons_succ]
      refine wpAnyH_take (i := 2) (v := .int .i64 k) rfl (by kernel_rfl) (by kernel_rfl) (by kernel_rfl) (fun _ _ _ h => h) (Or.inl ⟨by rfl, fun w hSw => ?_⟩) (by assumption) ?_
      · obtain ⟨s0, s1, s2, s3⟩ := hSw
        (go_simp <;> omega)
      try simp only [List.getElem_toArray, List.getElem_cons_zero, List.getElem_cons_succ, Act.put, List.setIfInBounds_toArray, List.set_cons_zero, List.set_cons_succ]
      refine wpAnyH_take (i := 3) (v := .pointer (some ⟨b1, o1 + k, none⟩)) rfl (by kernel_rfl) (by kernel_rfl) (by kernel_rfl) (fun _ _ _ h => h) (Or.inl ⟨by rfl, fun w hSw => ?_⟩) (by assumption) ?_
      · obtain ⟨s0, s1, s2, s3⟩ := hSw
        (go_simp <;> omega)
      try simp only [List.getElem_toArray, List.getElem_cons_zero, List.getElem_cons_succ, Act.put, List.setIfInBounds_toArray, List.set_cons_zero, List.set_cons_succ]
      refine wpAnyH_take (i := 4) (v := .slice a1 m c1) rfl (by kernel_rfl) (by kernel_rfl) (by kernel_rfl) (fun _ _ _ h => h) (Or.inl ⟨by rfl, fun w hSw => ?_⟩) (by assumption) ?_
      · obtain ⟨s0, s1, s2, s3⟩ := hSw
        (go_simp <;> omega)
      try simp only [List.getElem_toArray, List.getElem_cons_zero, List.getElem_cons_succ, Act.put, List.setIfInBounds_toArray, List.set_cons_zero, List.set_cons_succ]
      refine wpAnyH_take (i := 5) (v := .pointer (some ⟨G + 1, 1, none⟩)) rfl (by kernel_rfl) (by kernel_rfl) (by kernel_rfl) (fun _ _ _ h => h) (Or.inl ⟨by rfl, fun w hSw => ?_⟩) (by assumption) ?_
      · obtain ⟨s0, s1, s2, s3⟩ := hSw
        (go_simp <;> omega)
      try simp only [List.getElem_toArray, List.getElem_cons_zero, List.getElem_cons_succ, Act.put, List.setIfInBounds_toArray, List.set_cons_zero, List.set_cons_succ]
      refine wpAnyH_take (i := 6) (v := .slice (some ⟨b2, o2, none⟩) nV dV) rfl (by kernel_rfl) (by kernel_rfl) (by kernel_rfl) (fun _ _ _ h => h) (Or.inl ⟨by rfl, fun w hSw => ?_⟩) (by assumption) ?_
      · obtain ⟨s0, s1, s2, s3⟩ := hSw
        (go_simp <;> omega)
      try simp only [List.getElem_toArray, List.getElem_cons_zero, List.getElem_cons_succ, Act.put, List.setIfInBounds_toArray, List.set_cons_zero, List.set_cons_succ]
      refine wpAnyH_take (i := 7) (v := .int .i64 k) rfl (by kernel_rfl) (by kernel_rfl) (by kernel_rfl) (fun _ _ _ h => h) (Or.inl ⟨by rfl, fun w hSw => ?_⟩) (by assumption) ?_
      · obtain ⟨s0, s1, s2, s3⟩ := hSw
        (go_simp <;> omega)
      try simp only [List.getElem_toArray, List.getElem_cons_zero, List.getElem_cons_succ, Act.put, List.setIfInBounds_toArray, List.set_cons_zero, List.set_cons_succ]
      refine wpAnyH_take (i := 8) (v := .pointer (some ⟨b2, o2 + k, none⟩)) rfl (by kernel_rfl) (by kernel_rfl) (by kernel_rfl) (fun _ _ _ h => h) (Or.inl ⟨by rfl, fun w hSw => ?_⟩) (by assumption) ?_
      · obtain ⟨s0, s1, s2, s3⟩ := hSw
        (go_simp <;> omega)
      try simp only [List.getElem_toArray, List.getElem_cons_zero, List.getElem_cons_succ, Act.put, List.setIfInBounds_toArray, List.set_cons_zero, List.set_cons_succ]
      refine wpAnyH_take (i := 9) (v := .slice a2 m c2) rfl (by kernel_rfl) (by kernel_rfl) (by kernel_rfl) (fun _ _ _ h => h) (Or.inl ⟨by rfl, fun w hSw => ?_⟩) (by assumption) ?_
      · obtain ⟨s0, s1, s2, s3⟩ := hSw
        (go_simp <;> omega)
      try simp only [List.getElem_toArray, List.getElem_cons_zero, List.getElem_cons_succ, Act.put, List.setIfInBounds_toArray, List.set_cons_zero, List.set_cons_succ]
      refine wpAnyH_ready (rs := [10]) (by kernel_rfl) (by simp) ?_
      refine AllReadyH.cons rfl (fun K hK => ?_) AllReadyH.nil
      go_simp
      go_at_call 117
      refine (HSa.out _ hdr).mono ?_
      rintro e u1 ⟨rfl, hb1⟩
      have hb1' := hdr.trans (hb1.mono hdr.size)
      (try dsimp only)
      refine hK.out _ _ ⟨keep_cell hb1' x1, keep_cell hb1' y1, keep_cell hb1' z1, keep_cell hb1' z2⟩ (fun hHeld => ?_)
      clear hK K
      try simp only [List.getElem_toArray, List.getElem_cons_zero, List.getElem_cons_succ, Act.put, List.setIfInBounds_toArray, List.set_cons_zero, List.set_cons_succ]
      refine wpAnyH_take (i := 11) (v := .bool false) rfl (by kernel_rfl) (by kernel_rfl) (by kernel_rfl) (fun _ _ _ h => h) (Or.inl ⟨by rfl, fun w hSw => ?_⟩) (by assumption) ?_
      · obtain ⟨s0, s1, s2, s3⟩ := hSw
        (go_simp <;> omega)
      try simp only [List.getElem_toArray, List.getElem_cons_zero, List.getElem_cons_succ, Act.put, List.setIfInBounds_toArray, List.set_cons_zero, List.set_cons_succ]
      refine wpAnyH_done (by kernel_rfl) ?_ _
      replace hb := hb.trans (hb1'.mono hb.size)
      clear hdr hb1 hb1' x0 x1 y0 y1 z1 z2
      go_wp2_with fail
      go_roundw
      case rel => exact ⟨k + 1, by omega, by go_num, hb⟩
      case measure => simp [intOf]; omega
    · have hk2 : k = nV := by omega
      have Hk := Lib.hid hk2
      clear hk2
      go_wp2_with fail
      go_ret
      exact ⟨rfl, hA.trans (hb.mono hA.size)⟩
end Go.Proofs.Ytemlfklipkpacaa
