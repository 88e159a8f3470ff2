import Derived.Test.YteecfdjphjkdkaaGa
namespace Go.Proofs.Yteecfdjphjkdkaa
open Go.RowKit
theorem grown_setCell (w : World) (a : Addr) (u : Value) : w.grownBy (w.setCell a u) (some a.block) :=
  ⟨rfl, rfl, rfl, by simp [World.setCell], fun k _ hne => heap_setCell_other w a k u (fun e => hne (by rw [e]))⟩
/-- An element of what one owns: it can be read and written. -/
theorem own_at {w : World} {base n : Nat} {e : TypeId} {v : Value} {A : List Int} (h : w.ownsRow base e 1 v n (A.map (Value.int .i64))) (hn : n = A.length) {i : Nat} (hi : i < n) :
    ∃ g cap, v = .slice (some ⟨g, 0, none⟩) n cap ∧ base ≤ g ∧ g < w.heap.size ∧ w.cell? ⟨g, i, none⟩ = some (.int .i64 (A.getD i 0)) ∧ w.frozen? ⟨g, i, none⟩ = false ∧
      ∀ c : Int, (w.setCell ⟨g, i, none⟩ (.int .i64 c)).ownsRow base e 1 v n ((A.set i c).map (Value.int .i64)) := by
  obtain ⟨h1, ⟨_, h0⟩ | ⟨g, cap, cur, rfl, hb, hg, hnc, hcm, hcs, htk⟩⟩ := h
  · omega
  · refine ⟨g, cap, rfl, hb, heap_lt hg, ?_, frozen_of_row w g _ cur _ hg, fun c => ?_⟩
    · rw [cell_of_row w g i _ _ _ hg]
      have hu : (A.map (Value.int .i64))[i]? = some (.int .i64 (A.getD i 0)) := by
        rw [List.getElem?_map, List.getD_eq_getElem?_getD, List.getElem?_eq_getElem (by omega)]; rfl
      rw [← htk, List.getElem?_take, if_pos (by omega)] at hu
      simpa using hu
    · have hg2 := heap_setCell_same w g i cur e (.int .i64 c) hg
      refine ⟨by rw [List.length_map, List.length_set]; omega, .inr ⟨g, cap, _, rfl, hb, hg2, hnc, hcm, by rw [Array.size_setIfInBounds]; exact hcs, ?_⟩⟩
      rw [Array.toList_setIfInBounds, List.take_set, htk, List.map_set]
namespace Cl
/-- The first one of the greatest numbers. -/
def topI (R : List Int) : Nat := R.findIdx fun x => R.all fun y => decide (y ≤ x)
theorem topI_eq {R : List Int} {k : Nat} (hk : k < R.length) (h1 : ∀ y ∈ R, y ≤ R.getD k 0) (h2 : ∀ j, j < k → R.getD j 0 ≠ R.getD k 0) : topI R = k := by
  have gd : ∀ (j : Nat) (hj : j < R.length), R.getD j 0 = R[j] := fun j hj => by rw [List.getD_eq_getElem?_getD, List.getElem?_eq_getElem hj]; rfl
  unfold topI
  rw [List.findIdx_eq hk]
  rw [gd k hk] at h1 h2
  refine ⟨by simpa using h1, fun j hj => ?_⟩
  rw [Bool.eq_false_iff]
  intro hh
  rw [List.all_eq_true] at hh
  have h3 := hh _ (List.getElem_mem hk)
  simp only [decide_eq_true_eq] at h3
  have h4 := h1 _ (List.getElem_mem (show j < R.length by omega))
  have h5 := h2 j hj
  rw [gd j (by omega)] at h5
  omega
def wStep (s : List Int × List Int) : List Int × List Int := (s.1.set (topI s.2) (s.1.getD (topI s.2) 0 + 1), s.2.set (topI s.2) 0)
def wIt (s : List Int × List Int) : Nat → List Int × List Int
  | 0 => s
  | k + 1 => wStep (wIt s k)
theorem wIt_len (s : List Int × List Int) (k : Nat) : (wIt s k).1.length = s.1.length ∧ (wIt s k).2.length = s.2.length := by
  induction k with
  | zero => exact ⟨rfl, rfl⟩
  | succ k ih => unfold wIt wStep; simp only [List.length_set]; exact ih
theorem getD_bound {A : List Int} {b : Int} (hb : 0 ≤ b) (h : ∀ x ∈ A, 0 ≤ x ∧ x ≤ b) (i : Nat) : 0 ≤ A.getD i 0 ∧ A.getD i 0 ≤ b := by
  rw [List.getD_eq_getElem?_getD]
  cases he : A[i]? with
  | none => simpa using hb
  | some x => exact h x (List.mem_of_getElem? he)
theorem wIt_bound {s : List Int × List Int} {b : Int} (hb : 0 ≤ b) (h : ∀ x ∈ s.1, 0 ≤ x ∧ x ≤ b) (k : Nat) : ∀ x ∈ (wIt s k).1, 0 ≤ x ∧ x ≤ b + k := by
  induction k with
  | zero => intro x hx; have := h x hx; simpa using this
  | succ k ih =>
    intro x hx
    unfold wIt wStep at hx
    simp only at hx
    rcases List.mem_or_eq_of_mem_set hx with h1 | h1
    · have := ih x h1; push_cast; omega
    · have := getD_bound (by omega) ih (topI (wIt s k).2)
      push_cast; omega
/-- How many whole ones are left when all is rounded down. -/
def wLeft (L : List Int) (E : Int) : Nat := (E - Fl.sumI (wDown L E)).toNat
def whole (L : List Int) (E : Int) : List Int := (wIt (wDown L E, wRest L E) (wLeft L E)).1
theorem wDown_bound {L : List Int} {E : Int} (hC : okC L = true) (h0 : 0 ≤ E) (h1 : E ≤ Fl.sumI L) : ∀ x ∈ wDown L E, 0 ≤ x ∧ x ≤ 8000000 := by
  have hC := okC_iff.1 hC
  intro x hx
  unfold wDown at hx
  obtain ⟨c, hc, rfl⟩ := List.mem_map.1 hx
  have hcb := hC.2.2 c hc
  have h8 := sum_small (B := 1000) (by omega) (l := L) (fun x hx => by have := hC.2.2 x hx; omega)
  have p1 : 0 ≤ c * E := Int.mul_nonneg hcb.1 h0
  have p2 : c * E ≤ 1000 * 8000 := Int.mul_le_mul hcb.2 (by omega) h0 (by omega)
  have p3 : 0 ≤ c * E / max 1 (Fl.sumI L) := Int.ediv_nonneg p1 (by omega)
  have p4 : c * E / max 1 (Fl.sumI L) ≤ c * E := Int.ediv_le_self _ p1
  omega
end Cl
set_option maxRecDepth 100000 in
set_option maxHeartbeats 1000000 in
theorem whole_any (L : List Int) (E : Int) (ao : Option Addr) (n cap : Nat) (w : World) (hI : Ints w ao L) (hln : n = L.length) (hok : Cl.okC L = true) (h0 : 0 ≤ E) (h1 : E ≤ Fl.sumI L) :
    Calls Try.prog 43 #[.slice ao n cap, .int .i64 E] w fun e w' => ∃ v, e = .returned (.tuple #[v, .int .i64 0]) ∧ w'.ownsRow w.heap.size 3 1 v n ((Cl.whole L E).map (Value.int .i64)) ∧ Below w.heap.size w w' := by
  have Hn := Lib.hid hln
  have HC := Lib.hid (Cl.okC_iff.1 hok)
  have Hok := Lib.hid hok
  have HE := Lib.hid (And.intro h0 h1)
  have hcase : Cl.caseC L E = 0 := Cl.caseC_ok.2 ⟨hok, h0, h1⟩
  have hn8 : n ≤ 8 := by have := HC.out; omega
  have hn1 : 1 ≤ n := by have := HC.out; omega
  have hS8 : 0 ≤ Fl.sumI L ∧ Fl.sumI L ≤ 8000 := by
    have h := Cl.sum_small (B := 1000) (by omega) (l := L) (fun x hx => by have := HC.out.2.2 x hx; omega)
    have h2 := Cl.sum_nonneg (l := L) (fun x hx => by have := HC.out.2.2 x hx; omega)
    have := HC.out; omega
  have hEb : 0 ≤ E ∧ E ≤ 8000 := by omega
  have hDb := Lib.hid (Cl.wDown_bound hok h0 h1)
  have hDl : Hid ((Cl.wDown L E).length = n ∧ (Cl.wRest L E).length = n) := Lib.hid (by unfold Cl.wDown Cl.wRest; simp [Hn.out])
  clear hln hok h0 h1 hS8
  go_enter Try.func43, Try.ntmps43
  go_wp2_with fail
  refine (validate_any L E ao n cap w hI Hn.out (by omega)).mono ?_
  rintro e w1 ⟨rfl, hb1⟩
  rw [hcase]
  clear hcase
  replace hI := hI.below hb1
  go_wp2_with fail
  refine (parts_any L E ao n cap w1 hI Hn.out Hok.out HE.out.1 HE.out.2).mono ?_
  rintro e w2 ⟨v, u, rfl, hov, hou, hap, hb2⟩
  have hB := hb1.trans (hb2.mono hb1.size)
  replace hov := Lib.hid (own_mono hov hb1.size)
  replace hou := Lib.hid (own_mono hou hb1.size)
  replace hap := Lib.hid hap
  clear hb1 hb2 hI
  obtain ⟨ga, ca, rfl, hba, hla, hnca, hcella⟩ := own_cells hov.out (by omega)
  obtain ⟨gr, cr, rfl, hbr, hlr, hncr, hcellr⟩ := own_cells hou.out (by omega)
  have hne : ga ≠ gr := by
    rcases hap.out with h | h
    · cases h
    · exact fun e => h (by rw [e]; rfl)
  have hneg : gr ≠ ga := fun e => hne e.symm
  clear hcella hcellr hnca hncr hap
  have hI2 : Hid (Ints w2 (some ⟨ga, 0, none⟩) (Cl.wDown L E)) := Lib.hid (by
    obtain ⟨ao2, cap2, he, -, hI2⟩ := own_ints hov.out hDl.out.1.symm
    cases he; exact hI2)
  go_wp2_with fail
  refine (sum_any _ _ n ca w2 hI2.out hDl.out.1.symm (by omega) (fun x hx => by have := hDb.out x hx; omega)).mono ?_
  rintro e w3 ⟨rfl, hw0⟩; obtain rfl := hw0.symm
  clear hw0 hI2
  have hS : 0 ≤ Fl.sumI (Cl.wDown L E) ∧ Fl.sumI (Cl.wDown L E) ≤ 64000000 := by
    have h := Cl.sum_small (B := 8000000) (by omega) (l := Cl.wDown L E) (fun x hx => by have := hDb.out x hx; omega)
    have h2 := Cl.sum_nonneg (l := Cl.wDown L E) (fun x hx => (hDb.out x hx).1)
    have := hDl.out.1; omega
  have hN : Hid (Cl.wLeft L E = (E - Fl.sumI (Cl.wDown L E)).toNat) := Lib.hid rfl
  generalize Fl.sumI (Cl.wDown L E) = S at hS hN ⊢
  obtain ⟨T, hT⟩ : ∃ T, T = E - S := ⟨_, rfl⟩
  have e1 : IntKind.i64.wrap (E - S) = T := by rw [hT]; exact IntWalk.i64_in _ (by omega)
  have hTb : T ≤ 8000 := by omega
  have hN2 : Hid (Cl.wLeft L E = T.toNat) := Lib.hid (by rw [hN.out, hT])
  clear hT hN hS
  have Hfin : Hid (∀ k : Nat, ¬ ((k : Int) < T) → k ≤ T.toNat → Cl.whole L E = (Cl.wIt (Cl.wDown L E, Cl.wRest L E) k).1) := Lib.hid (fun k h1 h2 => by
    unfold Cl.whole
    rw [hN2.out, show T.toNat = k by omega])
  have HW : Hid (∀ k : Nat, (Cl.wIt (Cl.wDown L E, Cl.wRest L E) k).1.length = n ∧ (Cl.wIt (Cl.wDown L E, Cl.wRest L E) k).2.length = n ∧ ∀ x ∈ (Cl.wIt (Cl.wDown L E, Cl.wRest L E) k).1, 0 ≤ x ∧ x ≤ 8000000 + k) := Lib.hid (fun k => by
    have h1 := Cl.wIt_len (Cl.wDown L E, Cl.wRest L E) k
    have h2 := Cl.wIt_bound (s := (Cl.wDown L E, Cl.wRest L E)) (b := 8000000) (by omega) hDb.out k
    exact ⟨h1.1.trans hDl.out.1, h1.2.trans hDl.out.2, h2⟩)
  have HS : Hid (∀ k : Nat, Cl.wIt (Cl.wDown L E, Cl.wRest L E) (k + 1) = Cl.wStep (Cl.wIt (Cl.wDown L E, Cl.wRest L E) k)) := Lib.hid (fun k => rfl)
  have H0 : Hid (Cl.wIt (Cl.wDown L E, Cl.wRest L E) 0 = (Cl.wDown L E, Cl.wRest L E)) := Lib.hid rfl
  generalize Cl.wIt (Cl.wDown L E, Cl.wRest L E) = F at Hfin HW HS H0 ⊢
  go_wp2_with fail
  go_loopw [9, 26] (fun _ i wr => ∃ k : Nat, k ≤ T.toNat ∧ i = .int .i64 k ∧ Hid (wr.ownsRow w.heap.size 3 1 (.slice (some ⟨ga, 0, none⟩) n ca) n ((F k).1.map (Value.int .i64))) ∧ Hid (wr.ownsRow w.heap.size 3 1 (.slice (some ⟨gr, 0, none⟩) n cr) n ((F k).2.map (Value.int .i64))) ∧ Below w.heap.size w wr) (fun _ i _ => T.toNat - (intOf i).toNat)
  case atStart => exact ⟨0, Nat.zero_le _, rfl, Lib.hid (by rw [H0.out]; exact hov.out), Lib.hid (by rw [H0.out]; exact hou.out), hB⟩
  case round =>
    clear hov hou hB
    obtain ⟨k, hk, rfl, hov, hou, hB⟩ := hrel
    by_cases hlt : (k : Int) < T
    · have hw := HW.out k
      have hst := Lib.hid (HS.out k)
      generalize F k = s at hov hou hw hst
      obtain ⟨A, R⟩ := s
      simp only at hov hou hw
      have hA := Lib.hid hw.1
      have hR := Lib.hid hw.2.1
      have hAb := Lib.hid hw.2.2
      clear hw
      have hIR : Hid (Ints wr (some ⟨gr, 0, none⟩) R) := Lib.hid (by
        obtain ⟨ao2, cap2, he, -, hI2⟩ := own_ints hou.out hR.out.symm
        cases he; exact hI2)
      go_wp2_with fail
      refine (max_any R _ n cr wr hIR.out hR.out.symm (by omega) hn1).mono ?_
      rintro e w4 ⟨m, rfl, hm1, hm2, hw0⟩; obtain rfl := hw0.symm
      clear hw0
      have Hm := Lib.hid (And.intro hm1 hm2)
      clear hm1 hm2
      go_wp2_with fail
      refine (index_any R m _ n cr wr hIR.out hR.out.symm (by omega) Hm.out.1).mono ?_
      rintro e w5 ⟨q, rfl, hqn, hq1, hq2, hw0⟩; obtain rfl := hw0.symm
      clear hw0
      have htop : Hid (Cl.topI R = q) := Lib.hid (Cl.topI_eq (by rw [hR.out]; exact hqn) (by rw [hq1]; exact Hm.out.2) (by rw [hq1]; exact hq2))
      clear hq1 hq2 hIR Hm
      obtain ⟨g1, c1, he1, hg1b, hg1l, hx1, hf1, hset1⟩ := own_at hov.out hA.out.symm hqn
      cases he1
      obtain ⟨x, hx⟩ : ∃ x, x = A.getD q 0 := ⟨_, rfl⟩
      rw [← hx] at hx1
      have hxb : 0 ≤ x ∧ x ≤ 8000000 + k := by rw [hx]; exact Cl.getD_bound (by omega) hAb.out q
      have Hx := Lib.hid hx
      clear hx
      have e2 : IntKind.i64.wrap (x + 1) = x + 1 := IntWalk.i64_in _ (by omega)
      have i1 : (q : Int) < (n : Int) := by omega
      have how1 := Lib.hid (hset1 (x + 1))
      have hou1 := Lib.hid (hou.out.kept (grown_setCell wr ⟨ga, q, none⟩ (.int .i64 (x + 1))) (.inr (fun e => hneg (by simpa [Value.ownBlock] using e))))
      have hB1 : Below w.heap.size w (wr.setCell ⟨ga, q, none⟩ (.int .i64 (x + 1))) := hB.grown (grown_setCell wr ⟨ga, q, none⟩ (.int .i64 (x + 1))) hB.size (fun q hq => by cases hq; exact hba)
      obtain ⟨g2, c2, he2, -, -, hx2, hf2, -⟩ := own_at hou.out hR.out.symm hqn
      cases he2
      obtain ⟨g3, c3, he3, -, -, -, -, hset2⟩ := own_at hou1.out hR.out.symm hqn
      cases he3
      have how2 := Lib.hid (how1.out.kept (grown_setCell (wr.setCell ⟨ga, q, none⟩ (.int .i64 (x + 1))) ⟨gr, q, none⟩ (.int .i64 0)) (.inr (fun e => hne (by simpa [Value.ownBlock] using e))))
      have hou2 := Lib.hid (hset2 0)
      have hB2 : Below w.heap.size w ((wr.setCell ⟨ga, q, none⟩ (.int .i64 (x + 1))).setCell ⟨gr, q, none⟩ (.int .i64 0)) := hB1.grown (grown_setCell _ ⟨gr, q, none⟩ (.int .i64 0)) hB1.size (fun q hq => by cases hq; exact hbr)
      clear hset1 hset2 hov hou hB how1 hou1 hB1
      have hstep : Hid (F (k + 1) = (A.set q (x + 1), R.set q 0)) := Lib.hid (by
        rw [hst.out]
        unfold Cl.wStep
        simp only
        rw [htop.out, ← Hx.out])
      go_wp2_with fail
      go_roundw
      case rel => exact ⟨k + 1, by omega, by go_num, Lib.hid (by rw [hstep.out]; exact how2.out), Lib.hid (by rw [hstep.out]; exact hou2.out), hB2⟩
      case measure => simp [intOf]; omega
    · have Ho : Hid (wr.ownsRow w.heap.size 3 1 (.slice (some ⟨ga, 0, none⟩) n ca) n ((Cl.whole L E).map (Value.int .i64))) := Lib.hid (by
        rw [Hfin.out k (by omega) hk]; exact hov.out)
      go_wp2_with fail
      go_ret2
      exact ⟨_, rfl, Ho.out, hB⟩
end Go.Proofs.Yteecfdjphjkdkaa
