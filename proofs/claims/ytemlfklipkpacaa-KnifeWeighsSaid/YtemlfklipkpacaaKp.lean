import Derived.Test.YtemlfklipkpacaaKi
/- Which fields of package knife are valid. -/
namespace Go.Proofs.Ytemlfklipkpacaa
open Go.RowKit

theorem row_bad {n : Nat} {r : List Int} {k : Nat} (hk : k < r.length) (h : Kn.okV (r.getD k 0) = false) : Kn.okRow n r = false := by
  unfold Kn.okRow
  have : r.all Kn.okV = false := by
    rw [List.all_eq_false]
    refine ⟨r.getD k 0, ?_, by rw [h]; simp⟩
    rw [List.getD_eq_getElem?_getD, List.getElem?_eq_getElem hk]
    exact List.getElem_mem hk
  rw [this]
  simp
theorem row_good {n : Nat} {r : List Int} (h : ∀ k, k < r.length → Kn.okV (r.getD k 0) = true) : Kn.okRow n r = (decide (r.length = n) && decide (∃ v ∈ r, 0 < v)) := by
  unfold Kn.okRow
  have : r.all Kn.okV = true := by
    rw [List.all_eq_true]
    intro v hv
    obtain ⟨k, hk, rfl⟩ := List.getElem_of_mem hv
    have := h k hk
    rw [List.getD_eq_getElem?_getD, List.getElem?_eq_getElem hk] at this
    exact this
  rw [this, Bool.true_and]
  congr 1
  rw [Bool.eq_iff_iff]
  simp

set_option maxRecDepth 100000 in
set_option maxHeartbeats 2000000 in
theorem kareValues_any (r : List Int) (ao : Option Addr) (n cap : Nat) (z : Nat) (w : World) (hI : Ints w ao r) (hn : n = r.length) (hn2 : n ≤ 100000) (hz : z ≤ 100000) :
    Calls Try.prog 122 #[.slice ao n cap, .int .i64 z] w fun e w' => e = .returned (.bool (Kn.okRow z r)) ∧ Below w.heap.size w w' := by
  have Hn := Lib.hid hn
  clear hn
  obtain ⟨R, hR⟩ : ∃ x, x = Kn.okRow z r := ⟨_, rfl⟩
  rw [← hR]
  have HR := Lib.hid hR
  clear hR
  go_enter Try.func122, Try.ntmps122
  go_wp2
  go_loopw [5, 10] (fun m i wr => ∃ k : Nat, k ≤ n ∧ i = .int .i64 k ∧ (∃ M : Int, m = .int .i64 M ∧ 0 ≤ M ∧ M ≤ 20 ∧ Hid (0 < M ↔ ∃ v ∈ r.take k, 0 < v)) ∧ Hid (∀ j, j < k → Kn.okV (r.getD j 0) = true) ∧ Below w.heap.size w wr) (fun _ i _ => n - (intOf i).toNat)
  case atStart => exact ⟨0, Nat.zero_le _, rfl, ⟨0, rfl, by omega, by omega, Lib.hid (by simp)⟩, Lib.hid (fun j hj => by omega), Below.refl _ _⟩
  case round =>
    obtain ⟨k, hk, rfl, ⟨M, rfl, hM0, hM1, HM⟩, HA, hb⟩ := hrel
    by_cases hlt : k < n
    · have hkl : k < r.length := by have := Hn.out; omega
      obtain ⟨b, off, rfl, hbs, z0⟩ := hI.at hkl
      clear hI
      rw [← hb.cell (p := ⟨b, _, none⟩) hbs] at z0
      have i1 : (k : Int) < (n : Int) := by omega
      have hmem : Hid (r.take (k + 1) = r.take k ++ [r.getD k 0]) := Lib.hid (by rw [List.take_succ_eq_append_getElem hkl, List.getD_eq_getElem?_getD, List.getElem?_eq_getElem hkl]; rfl)
      have hbad : Hid (Kn.okV (r.getD k 0) = false → R = false) := Lib.hid (fun h => by rw [HR.out]; exact row_bad hkl h)
      have HA2 : Hid (Kn.okV (r.getD k 0) = true → ∀ j, j < k + 1 → Kn.okV (r.getD j 0) = true) := Lib.hid (fun h j hj => by
        rcases Nat.lt_or_ge j k with h2 | h2
        · exact HA.out j h2
        · rw [show j = k by omega]; exact h)
      obtain ⟨x, hx⟩ : ∃ x, x = r.getD k 0 := ⟨_, rfl⟩
      rw [← hx] at z0 hmem hbad HA2
      clear hx
      by_cases h0 : x < 0
      · have hr := Lib.hid (hbad.out (by unfold Kn.okV; simp; omega))
        go_wp2
        go_ret
        exact ⟨ret_bool hr.out.symm, hb⟩
      · by_cases h1 : 20 < x
        · have hr := Lib.hid (hbad.out (by unfold Kn.okV; simp; omega))
          go_wp2
          go_ret
          exact ⟨ret_bool hr.out.symm, hb⟩
        · have hok2 := Lib.hid (HA2.out (by unfold Kn.okV; simp; omega))
          obtain ⟨N, hN⟩ : ∃ N, N = (if M < x then x else M) := ⟨_, rfl⟩
          have hmx : 0 ≤ N ∧ N ≤ 20 := by rw [hN]; split <;> omega
          have HM2 : Hid (0 < N ↔ ∃ v ∈ r.take (k + 1), 0 < v) := Lib.hid (by
            have hN2 : 0 < N ↔ 0 < M ∨ 0 < x := by rw [hN]; split <;> omega
            rw [hmem.out, hN2]
            have := HM.out
            constructor
            · rintro (h | h)
              · obtain ⟨v, hv, hv0⟩ := this.1 h
                exact ⟨v, by simp [hv], hv0⟩
              · exact ⟨x, by simp, h⟩
            · rintro ⟨v, hv, hv0⟩
              rcases List.mem_append.1 hv with h | h
              · exact Or.inl (this.2 ⟨v, h, hv0⟩)
              · have : v = x := by simpa using h
                exact Or.inr (by omega))
          have HN := Lib.hid hN
          clear hN hmem hbad HA2
          go_wp2
          rw [← HN.out]
          go_roundw
          case rel => exact ⟨k + 1, by omega, by go_num, ⟨N, rfl, hmx.1, hmx.2, HM2⟩, hok2, hb⟩
          case measure => simp [intOf]; omega
    · have hk2 : k = n := by omega
      have hval : R = (decide (n = z) && decide (0 < M)) := by
        have h1 := HM.out
        rw [hk2, Hn.out, List.take_length] at h1
        rw [HR.out, row_good (fun j hj => HA.out j (by have := Hn.out; omega)), ← Hn.out]
        congr 1
        rw [Bool.eq_iff_iff]
        simp only [decide_eq_true_eq]
        exact h1.symm
      have HV := Lib.hid hval
      have Hk := Lib.hid hk2
      clear hval hk2
      by_cases e1 : n = z
      · have q1 : ((n : Int) == (z : Int)) = true := by simp; omega
        have hz1 := Lib.hid e1
        clear e1
        by_cases e2 : 0 < M
        · have hr : Hid (R = true) := Lib.hid (by rw [HV.out, hz1.out]; simp [e2])
          go_wp2
          go_ret
          exact ⟨ret_bool hr.out.symm, hb⟩
        · have hr : Hid (R = false) := Lib.hid (by rw [HV.out]; simp [e2])
          go_wp2
          go_ret
          exact ⟨ret_bool hr.out.symm, hb⟩
      · have q1 : ((n : Int) == (z : Int)) = false := by simp; omega
        have hr : Hid (R = false) := Lib.hid (by rw [HV.out]; simp [e1])
        clear e1
        go_wp2
        go_ret
        exact ⟨ret_bool hr.out.symm, hb⟩

set_option maxRecDepth 100000 in
set_option maxHeartbeats 4000000 in
theorem kValidate_any (L : List Int) (V : List (List Int)) (aoL : Option Addr) (nL cL : Nat) (aoV : Option Addr) (nV cV : Nat) (w : World) (hf : Fld w aoL nL aoV nV L V) (hl : nL ≤ 100) (hv : nV ≤ 100) (hr : ∀ r ∈ V, r.length ≤ 100) :
    Calls Try.prog 62 #[.agg #[.slice aoL nL cL, .slice aoV nV cV]] w fun e w' => e = .returned (.int .i64 (Kn.val L V)) ∧ Below w.heap.size w w' := by
  obtain ⟨R, hR⟩ : ∃ x, x = Kn.val L V := ⟨_, rfl⟩
  rw [← hR]
  have HR := Lib.hid hR
  have HnL := Lib.hid hf.nl
  have HnV := Lib.hid hf.nv
  clear hR
  have hA := (Below.refl _ w).alloc (Nat.le_refl _) (.cells #[.slice aoL nL cL, .slice aoV nV cV] 57)
  have rf := heap_alloc_new w (.cells #[.slice aoL nL cL, .slice aoV nV cV] 57)
  go_enter Try.func62, Try.ntmps62
  go_upto_region 1 with fail
  generalize w.alloc (.cells #[.slice aoL nL cL, .slice aoV nV cV] 57) = W0 at hA rf ⊢
  obtain ⟨⟨c0, c1⟩, -, -⟩ := row_fr rf
  replace hf := hf.below hA
  have hs0 := heap_lt rf
  obtain ⟨G, hG⟩ : ∃ g, g = w.heap.size := ⟨_, rfl⟩
  rw [← hG] at rf c0 c1 hs0 ⊢
  have HG := Lib.hid hG
  clear hG
  go_region
  have hA1 : Below w.heap.size w W0.drew := below_drewN hA 1
  have hf1 : Fld W0.drew aoL nL aoV nV L V := hf.below (below_drewN (Below.refl W0.heap.size W0) 1)
  have rf1 : W0.drew.heap[G]? = some (.cells #[.slice aoL nL cL, .slice aoV nV cV] 57 (0, 0)) := rf
  clear rf c0 c1 hA hf hs0
  generalize W0.drew = W1 at hA1 hf1 rf1 ⊢
  obtain ⟨⟨c0, c1⟩, -, -⟩ := row_fr rf1
  by_cases b1 : nL < 1
  · have hr := Lib.hid (show R = 3 by rw [HR.out]; unfold Kn.val; rw [if_pos (by have := HnL.out; omega)])
    go_wp2
    go_ret
    exact ⟨ret_int hr.out.symm, hA1⟩
  by_cases b2 : 6 < nL
  · have hr := Lib.hid (show R = 3 by rw [HR.out]; unfold Kn.val; rw [if_pos (by have := HnL.out; omega)])
    go_wp2
    go_ret
    exact ⟨ret_int hr.out.symm, hA1⟩
  by_cases b3 : nV < 1
  · have hr := Lib.hid (show R = 3 by rw [HR.out]; unfold Kn.val; rw [if_pos (by have := HnV.out; omega)])
    go_wp2
    go_ret
    exact ⟨ret_int hr.out.symm, hA1⟩
  by_cases b4 : 5 < nV
  · have hr := Lib.hid (show R = 3 by rw [HR.out]; unfold Kn.val; rw [if_pos (by have := HnV.out; omega)])
    go_wp2
    go_ret
    exact ⟨ret_int hr.out.symm, hA1⟩
  have hR1 : R = if L.all Kn.okL && V.all (Kn.okRow L.length) then 0 else 1 := by
    rw [HR.out]; unfold Kn.val; rw [if_neg (by have := HnV.out; have := HnL.out; omega)]
  have HR1 := Lib.hid hR1
  clear hR1 HR
  go_wp2
  go_loopw [32] (fun i wr => ∃ k : Nat, k ≤ nL ∧ i = .int .i64 k ∧ Hid (∀ j, j < k → Kn.okL (L.getD j 0) = true) ∧ Below W1.heap.size W1 wr) (fun i _ => nL - (intOf i).toNat)
  case atStart => exact ⟨0, Nat.zero_le _, rfl, Lib.hid (fun j hj => by omega), Below.refl _ _⟩
  case round =>
    obtain ⟨k, hk, rfl, HA, hb⟩ := hrel
    have hbw := hA1.trans (hb.mono hA1.size)
    by_cases hlt : k < nL
    · have hkl : k < L.length := by have := HnL.out; omega
      obtain ⟨b, off, rfl, hbs, z0⟩ := hf1.hL.at hkl
      rw [← hb.cell (p := ⟨b, _, none⟩) hbs] at z0
      have i1 : (k : Int) < (nL : Int) := by omega
      have hbad : Hid (Kn.okL (L.getD k 0) = false → R = 1) := Lib.hid (fun h => by
        rw [HR1.out]
        have : L.all Kn.okL = false := by
          rw [List.all_eq_false]
          refine ⟨L.getD k 0, ?_, by rw [h]; simp⟩
          rw [List.getD_eq_getElem?_getD, List.getElem?_eq_getElem hkl]
          exact List.getElem_mem hkl
        rw [this]; rfl)
      have HA2 : Hid (Kn.okL (L.getD k 0) = true → ∀ j, j < k + 1 → Kn.okL (L.getD j 0) = true) := Lib.hid (fun h j hj => by
        rcases Nat.lt_or_ge j k with h2 | h2
        · exact HA.out j h2
        · rw [show j = k by omega]; exact h)
      obtain ⟨x, hx⟩ : ∃ x, x = L.getD k 0 := ⟨_, rfl⟩
      rw [← hx] at z0 hbad HA2
      clear hx
      by_cases h0 : x < 1
      · have hr := Lib.hid (hbad.out (by unfold Kn.okL; simp; omega))
        go_wp2
        go_ret
        exact ⟨ret_int hr.out.symm, hbw⟩
      · by_cases h1 : 20 < x
        · have hr := Lib.hid (hbad.out (by unfold Kn.okL; simp; omega))
          go_wp2
          go_ret
          exact ⟨ret_int hr.out.symm, hbw⟩
        · have hok2 := Lib.hid (HA2.out (by unfold Kn.okL; simp; omega))
          clear hbad HA2
          go_wp2
          go_roundw
          case rel => exact ⟨k + 1, by omega, by go_num, hok2, hb⟩
          case measure => simp [intOf]; omega
    · have hk2 : k = nL := by omega
      have hall : L.all Kn.okL = true := by
        rw [List.all_eq_true]
        intro v hv
        obtain ⟨j, hj, rfl⟩ := List.getElem_of_mem hv
        have := HA.out j (by have := HnL.out; omega)
        rw [List.getD_eq_getElem?_getD, List.getElem?_eq_getElem hj] at this
        exact this
      have HR2 : Hid (R = if V.all (Kn.okRow L.length) then 0 else 1) := Lib.hid (by rw [HR1.out, hall, Bool.true_and])
      have Hk := Lib.hid hk2
      clear hk2 hall HA
      have rf2 := heap_keep hb rf1
      have hf2 := hf1.below hb
      clear c0 c1 rf1 hf1 hA1 hb
      rename World => W2
      obtain ⟨⟨c0, c1⟩, -, -⟩ := row_fr rf2
      go_wp2
      go_loopw [46] (fun i wx => ∃ k : Nat, k ≤ nV ∧ i = .int .i64 k ∧ Hid (∀ j, j < k → Kn.okRow L.length (V.getD j []) = true) ∧ Below W2.heap.size W2 wx) (fun i _ => nV - (intOf i).toNat)
      case atStart => exact ⟨0, Nat.zero_le _, rfl, Lib.hid (fun j hj => by omega), Below.refl _ _⟩
      case round =>
        obtain ⟨j, hj, rfl, HB, hb2⟩ := hrel
        have hbx := hbw.trans (hb2.mono hbw.size)
        by_cases hlt2 : j < nV
        · have hjl : j < V.length := by have := HnV.out; omega
          obtain ⟨b, off, aoi, ci, rfl, z0, z1, z2⟩ := (hf2.below hb2).hV.at hjl
          have i1 : (j : Int) < (nV : Int) := by omega
          have hrl := hr (V.getD j []) (by rw [List.getD_eq_getElem?_getD, List.getElem?_eq_getElem hjl]; exact List.getElem_mem hjl)
          have hbad : Hid (Kn.okRow L.length (V.getD j []) = false → R = 1) := Lib.hid (fun h => by
            rw [HR2.out]
            have : V.all (Kn.okRow L.length) = false := by
              rw [List.all_eq_false]
              refine ⟨V.getD j [], ?_, by rw [h]; simp⟩
              rw [List.getD_eq_getElem?_getD, List.getElem?_eq_getElem hjl]
              exact List.getElem_mem hjl
            rw [this]; rfl)
          have HB2 : Hid (Kn.okRow L.length (V.getD j []) = true → ∀ i, i < j + 1 → Kn.okRow L.length (V.getD i []) = true) := Lib.hid (fun h i hi => by
            rcases Nat.lt_or_ge i j with h2 | h2
            · exact HB.out i h2
            · rw [show i = j by omega]; exact h)
          rw [← HnL.out] at hbad HB2
          have hAv := fun w6 (hb6 : Below wr.heap.size wr w6) => kareValues_any (V.getD j []) aoi (V.getD j []).length ci nL w6 (z2.below hb6) rfl (by omega) (by omega)
          generalize Kn.okRow nL (V.getD j []) = ok at hbad HB2 hAv
          generalize (V.getD j []).length = nr at z0 hAv
          have HAv := Lib.hid hAv
          clear hAv hrl z1 z2 HB
          go_wp2_with fail
          refine (HAv.out wr (Below.refl _ _)).mono ?_
          rintro e w6 ⟨rfl, hb6⟩
          have hb7 := hbx.trans (hb6.mono hbx.size)
          have hb8 := hb2.trans (hb6.mono hb2.size)
          cases ok with
          | false =>
            have hr' := Lib.hid (hbad.out rfl)
            go_wp2
            go_ret
            exact ⟨ret_int hr'.out.symm, hb7⟩
          | true =>
            have hok2 : Hid (∀ i, i < j + 1 → Kn.okRow L.length (V.getD i []) = true) := Lib.hid (by rw [← HnL.out]; exact HB2.out rfl)
            clear hbad HB2
            go_wp2
            go_roundw
            case rel => exact ⟨j + 1, by omega, by go_num, hok2, hb8⟩
            case measure => simp [intOf]; omega
        · have hj2 : j = nV := by omega
          have hr' : Hid (R = 0) := Lib.hid (by
            rw [HR2.out]
            have : V.all (Kn.okRow L.length) = true := by
              rw [List.all_eq_true]
              intro v hv
              obtain ⟨i, hi, rfl⟩ := List.getElem_of_mem hv
              have := HB.out i (by have := HnV.out; omega)
              rw [List.getD_eq_getElem?_getD, List.getElem?_eq_getElem hi] at this
              exact this
            rw [this]; rfl)
          have Hj := Lib.hid hj2
          clear hj2
          go_wp2
          go_ret
          exact ⟨ret_int hr'.out.symm, hbx⟩
end Go.Proofs.Ytemlfklipkpacaa
