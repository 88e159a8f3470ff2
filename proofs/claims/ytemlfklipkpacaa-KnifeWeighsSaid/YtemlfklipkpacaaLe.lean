import Derived.Test.YtemlfklipkpacaaLd
import Derived.Test.YtemlfklipkpacaaKp
/- The reference of package knife: which fields are valid. -/
namespace Go.Proofs.Ytemlfklipkpacaa
open Go.RowKit
theorem sumI_pos {r : List Int} (h : ∀ v ∈ r, 0 ≤ v) : 0 ≤ Fl.sumI r ∧ (Fl.sumI r = 0 ↔ ¬ ∃ v ∈ r, 0 < v) := by
  induction r with
  | nil => exact ⟨Int.le_refl _, by simp [Fl.sumI]⟩
  | cons x r ih =>
    have hx := h x (by simp)
    obtain ⟨i1, i2⟩ := ih (fun v hv => h v (by simp [hv]))
    rw [Fl.sumI_cons]
    refine ⟨by omega, ?_⟩
    constructor
    · intro h0
      rintro ⟨v, hv, hv0⟩
      rcases List.mem_cons.1 hv with rfl | hv
      · omega
      · exact (i2.1 (by omega)) ⟨v, hv, hv0⟩
    · intro h0
      have : ¬ 0 < x := fun hx0 => h0 ⟨x, by simp, hx0⟩
      have : Fl.sumI r = 0 := i2.2 (fun ⟨v, hv, hv0⟩ => h0 ⟨v, by simp [hv], hv0⟩)
      omega
theorem all_take {r : List Int} {k : Nat} (h : ∀ j, j < k → Kn.okV (r.getD j 0) = true) (hk : k ≤ r.length) : ∀ v ∈ r.take k, 0 ≤ v ∧ v ≤ 20 := by
  intro v hv
  obtain ⟨j, hj, rfl⟩ := List.getElem_of_mem hv
  have hjk : j < k := by rw [List.length_take] at hj; omega
  have := h j hjk
  rw [List.getElem_take]
  rw [List.getD_eq_getElem?_getD, List.getElem?_eq_getElem (by omega)] at this
  unfold Kn.okV at this
  simpa using this

set_option maxRecDepth 100000 in
set_option maxHeartbeats 8000000 in
theorem sValidate_any (L : List Int) (V : List (List Int)) (aoL : Option Addr) (nL cL : Nat) (aoV : Option Addr) (nV cV : Nat) (w : World) (hf : Fld w aoL nL aoV nV L V) (hl : nL ≤ 100) (hv : nV ≤ 100) (hr : ∀ r ∈ V, r.length ≤ 100) :
    Calls Try.prog 92 #[.agg #[.slice aoL nL cL, .slice aoV nV cV]] w fun e w' => e = .returned (.int .i64 (Kn.val L V)) ∧ Below w.heap.size w w' := by
  obtain ⟨R, hR⟩ : ∃ x, x = Kn.val L V := ⟨_, rfl⟩
  rw [← hR]
  have HR := Lib.hid hR
  have HnL := Lib.hid hf.nl
  have HnV := Lib.hid hf.nv
  clear hR
  have hA := (Below.refl _ w).alloc (Nat.le_refl _) (.cells #[.slice aoL nL cL, .slice aoV nV cV] 57)
  have rf := heap_alloc_new w (.cells #[.slice aoL nL cL, .slice aoV nV cV] 57)
  go_enter Try.func92, Try.ntmps92
  go_upto_region 1 with fail
  generalize w.alloc (.cells #[.slice aoL nL cL, .slice aoV nV cV] 57) = W0 at hA rf ⊢
  obtain ⟨⟨c0, c1⟩, -, -⟩ := row_fr rf
  replace hf := hf.below hA
  obtain ⟨G, hG⟩ : ∃ g, g = w.heap.size := ⟨_, rfl⟩
  rw [← hG] at rf c0 c1 ⊢
  have HG := Lib.hid hG
  clear hG rf
  go_wp2_with fail
  refine (swithin_any (nL : Int) 1 6 W0).mono ?_
  rintro e w' ⟨rfl, rfl⟩
  obtain ⟨b1, hb1⟩ : ∃ b, (decide ((1 : Int) ≤ (nL : Int)) && decide ((nL : Int) ≤ 6)) = b := ⟨_, rfl⟩
  rw [hb1]
  cases b1 with
  | false =>
    have hr := Lib.hid (show R = 3 by
      have h2 : ¬ (1 ≤ nL ∧ nL ≤ 6) := by
        intro h
        have h3 : (decide ((1 : Int) ≤ (nL : Int)) && decide ((nL : Int) ≤ 6)) = true := by rw [decide_eq_true (by omega), decide_eq_true (by omega)]; rfl
        rw [h3] at hb1; cases hb1
      rw [HR.out]; unfold Kn.val; rw [if_pos (by have := HnL.out; omega)])
    clear hb1
    go_wp2_with fail
    go_ret
    exact ⟨ret_int hr.out.symm, hA⟩
  | true =>
    have hl6 : 1 ≤ nL ∧ nL ≤ 6 := by simp at hb1; omega
    clear hb1
    go_wp2_with fail
    refine (swithin_any (nV : Int) 1 5 W0).mono ?_
    rintro e w' ⟨rfl, rfl⟩
    obtain ⟨b1, hb1⟩ : ∃ b, (decide ((1 : Int) ≤ (nV : Int)) && decide ((nV : Int) ≤ 5)) = b := ⟨_, rfl⟩
    rw [hb1]
    cases b1 with
    | false =>
      have hr := Lib.hid (show R = 3 by
        have h2 : ¬ (1 ≤ nV ∧ nV ≤ 5) := by
          intro h
          have h3 : (decide ((1 : Int) ≤ (nV : Int)) && decide ((nV : Int) ≤ 5)) = true := by rw [decide_eq_true (by omega), decide_eq_true (by omega)]; rfl
          rw [h3] at hb1; cases hb1
        rw [HR.out]; unfold Kn.val; rw [if_pos (by have := HnV.out; omega)])
      clear hb1
      go_wp2_with fail
      go_ret
      exact ⟨ret_int hr.out.symm, hA⟩
    | true =>
      have hv5 : 1 ≤ nV ∧ nV ≤ 5 := by simp at hb1; omega
      clear hb1
      have HR1 := Lib.hid (show R = if L.all Kn.okL && V.all (Kn.okRow L.length) then 0 else 1 by
        rw [HR.out]; unfold Kn.val; rw [if_neg (by have := HnV.out; have := HnL.out; omega)])
      clear HR
      go_wp2_with fail
      go_loopw [3] (fun i wr => ∃ k : Nat, k ≤ nL ∧ i = .int .i64 k ∧ Hid (∀ j, j < k → Kn.okL (L.getD j 0) = true) ∧ Below W0.heap.size W0 wr) (fun i _ => nL - (intOf i).toNat)
      case atStart => exact ⟨0, Nat.zero_le _, rfl, Lib.hid (fun j hj => by omega), Below.refl _ _⟩
      case round =>
        obtain ⟨k, hk, rfl, HA, hb⟩ := hrel
        have hbw := hA.trans (hb.mono hA.size)
        have q0 := keep_cell hb c0
        have q1 := keep_cell hb c1
        by_cases hlt : k < nL
        · have hkl : k < L.length := by have := HnL.out; omega
          obtain ⟨b, off, rfl, hbs, z0⟩ := (hf.below hb).hL.at hkl
          have i1 : (k : Int) < (nL : Int) := by omega
          have hbad : Hid (Kn.okL (L.getD k 0) = false → R = 1) := Lib.hid (fun h => by
            rw [HR1.out]
            have : L.all Kn.okL = false := by
              rw [List.all_eq_false]
              refine ⟨L.getD k 0, ?_, by rw [h]; simp⟩
              rw [List.getD_eq_getElem?_getD, List.getElem?_eq_getElem hkl]
              exact List.getElem_mem hkl
            rw [this]; rfl)
          have HA2 : Hid (Kn.okL (L.getD k 0) = true → ∀ j, j < k + 1 → Kn.okL (L.getD j 0) = true) := Lib.hid (fun h j hj => by
            rcases Nat.lt_or_ge j k with h2 | h2
            · exact HA.out j h2
            · rw [show j = k by omega]; exact h)
          obtain ⟨x, hx⟩ : ∃ x, x = L.getD k 0 := ⟨_, rfl⟩
          rw [← hx] at z0 hbad HA2
          clear hx
          go_wp2_with fail
          refine (swithin_any x 1 20 wr).mono ?_
          rintro e w' ⟨rfl, rfl⟩
          rw [show (decide ((1 : Int) ≤ x) && decide (x ≤ 20)) = Kn.okL x from rfl]
          obtain ⟨b2, hb2⟩ : ∃ b, b = Kn.okL x := ⟨_, rfl⟩
          rw [← hb2] at hbad HA2 ⊢
          clear hb2
          cases b2 with
          | false =>
            have hr := Lib.hid (hbad.out rfl)
            go_wp2_with fail
            go_ret
            exact ⟨ret_int hr.out.symm, hbw⟩
          | true =>
            have hok2 := Lib.hid (HA2.out rfl)
            clear hbad HA2
            go_wp2_with fail
            go_roundw
            case rel => exact ⟨k + 1, by omega, by go_num, hok2, hb⟩
            case measure => simp [intOf]; omega
        · have hk2 : k = nL := by omega
          have hall : L.all Kn.okL = true := by
            rw [List.all_eq_true]
            intro v hv
            obtain ⟨j, hj, rfl⟩ := List.getElem_of_mem hv
            have := HA.out j (by have := HnL.out; omega)
            rw [List.getD_eq_getElem?_getD, List.getElem?_eq_getElem hj] at this
            exact this
          have HR2 : Hid (R = if V.all (Kn.okRow L.length) then 0 else 1) := Lib.hid (by rw [HR1.out, hall, Bool.true_and])
          have Hk := Lib.hid hk2
          have hf2 := hf.below hb
          clear hk2 hall HA c0 c1 hA hb hf HR1
          rename World => W2
          go_wp2
          go_loopw [4] (fun i wr => ∃ k : Nat, k ≤ nV ∧ i = .int .i64 k ∧ Hid (∀ j, j < k → Kn.okRow L.length (V.getD j []) = true) ∧ Below W2.heap.size W2 wr) (fun i _ => nV - (intOf i).toNat)
          case atStart => exact ⟨0, Nat.zero_le _, rfl, Lib.hid (fun j hj => by omega), Below.refl _ _⟩
          case round =>
            obtain ⟨j, hj, rfl, HB, hb2⟩ := hrel
            have hbx := hbw.trans (hb2.mono hbw.size)
            have p0 := keep_cell hb2 q0
            have p1 := keep_cell hb2 q1
            by_cases hlt2 : j < nV
            · have hjl : j < V.length := by have := HnV.out; omega
              obtain ⟨bV, oV, aoi, ci, hav, z0, z1, z2⟩ := (hf2.below hb2).hV.at hjl
              subst hav
              have i1 : (j : Int) < (nV : Int) := by omega
              have hrl := hr (V.getD j []) (by rw [List.getD_eq_getElem?_getD, List.getElem?_eq_getElem hjl]; exact List.getElem_mem hjl)
              have hbad : Hid (Kn.okRow L.length (V.getD j []) = false → R = 1) := Lib.hid (fun h => by
                rw [HR2.out]
                have : V.all (Kn.okRow L.length) = false := by
                  rw [List.all_eq_false]
                  refine ⟨V.getD j [], ?_, by rw [h]; simp⟩
                  rw [List.getD_eq_getElem?_getD, List.getElem?_eq_getElem hjl]
                  exact List.getElem_mem hjl
                rw [this]; rfl)
              have HB2 : Hid (Kn.okRow L.length (V.getD j []) = true → ∀ i, i < j + 1 → Kn.okRow L.length (V.getD i []) = true) := Lib.hid (fun h i hi => by
                rcases Nat.lt_or_ge i j with h2 | h2
                · exact HB.out i h2
                · rw [show i = j by omega]; exact h)
              rw [← HnL.out] at hbad HB2
              obtain ⟨r, hr'⟩ : ∃ r, r = V.getD j [] := ⟨_, rfl⟩
              rw [← hr'] at z0 z1 z2 hrl hbad HB2
              obtain ⟨m, hm⟩ : ∃ m, m = r.length := ⟨_, rfl⟩
              rw [← hm] at z0 z1 hrl
              have Hm := Lib.hid hm
              clear hm hr' HB
              by_cases hmn : m = nL
              · have e1 : ((m : Int) != (nL : Int)) = false := by simp; omega
                have Hmn := Lib.hid hmn
                clear hmn
                go_wp2_with fail
                go_quiet (fail)
                have hbd := below_drewN (Below.refl wr.heap.size wr) nq
                have hb3 := hb2.trans (hbd.mono hb2.size)
                have hbx3 := hbx.trans (hbd.mono hbx.size)
                replace p0 := keep_cell hbd p0
                replace p1 := keep_cell hbd p1
                replace z0 := keep_cell hbd z0
                replace z2 := z2.below hbd
                clear hbd hb2 hbx
                generalize wr.drewN nq = W3 at p0 p1 z0 z2 hb3 hbx3 ⊢
                go_wp2_with fail
                go_loopw [5, 6] (fun sm i wr => ∃ x : Nat, x ≤ nL ∧ i = .int .i64 x ∧ sm = .int .i64 (Fl.sumI (r.take x)) ∧ Hid (∀ y, y < x → Kn.okV (r.getD y 0) = true) ∧ Below W3.heap.size W3 wr) (fun _ i _ => nL - (intOf i).toNat)
                case atStart => exact ⟨0, Nat.zero_le _, rfl, rfl, Lib.hid (fun y hy => by omega), Below.refl _ _⟩
                case round =>
                  obtain ⟨x, hx, rfl, rfl, HC, hb4⟩ := hrel
                  have t0 := keep_cell hb4 p0
                  have t1 := keep_cell hb4 p1
                  have t2 := keep_cell hb4 z0
                  have hbx4 := hbx3.trans (hb4.mono hbx3.size)
                  have hall := all_take HC.out (by rw [← Hm.out, Hmn.out]; exact hx)
                  have hsb := Fl.sumI_bound hall
                  have hlt3 : (r.take x).length ≤ 100 := by rw [List.length_take]; omega
                  by_cases hlt4 : x < nL
                  · have hxl : x < r.length := by have := Hm.out; have := Hmn.out; omega
                    obtain ⟨b, off, hav, hbs, y0⟩ := (z2.below hb4).at hxl
                    subst hav
                    have i2 : (x : Int) < (nL : Int) := by omega
                    have i3 : (x : Int) < (m : Int) := by have := Hmn.out; omega
                    have hst := Lib.hid (Fl.sumI_take hxl)
                    have hbad2 : Hid (Kn.okV (r.getD x 0) = false → R = 1) := Lib.hid (fun h => hbad.out (row_bad hxl h))
                    have HC2 : Hid (Kn.okV (r.getD x 0) = true → ∀ y, y < x + 1 → Kn.okV (r.getD y 0) = true) := Lib.hid (fun h y hy => by
                      rcases Nat.lt_or_ge y x with h2 | h2
                      · exact HC.out y h2
                      · rw [show y = x by omega]; exact h)
                    obtain ⟨vv, hvv⟩ : ∃ v, v = r.getD x 0 := ⟨_, rfl⟩
                    rw [← hvv] at y0 hst hbad2 HC2
                    clear hvv hall
                    obtain ⟨S, hS⟩ : ∃ s, s = Fl.sumI (r.take x) := ⟨_, rfl⟩
                    rw [← hS] at hsb hst ⊢
                    clear hS
                    go_wp2_with fail
                    refine (swithin_any vv 0 20 wr).mono ?_
                    rintro e w' ⟨rfl, rfl⟩
                    rw [show (decide ((0 : Int) ≤ vv) && decide (vv ≤ 20)) = Kn.okV vv from rfl]
                    obtain ⟨b2, hb2⟩ : ∃ b, Kn.okV vv = b := ⟨_, rfl⟩
                    rw [hb2] at hbad2 HC2 ⊢
                    cases b2 with
                    | false =>
                      have hr3 := Lib.hid (hbad2.out rfl)
                      clear hb2
                      go_wp2_with fail
                      go_ret
                      exact ⟨ret_int hr3.out.symm, hbx4⟩
                    | true =>
                      have hok3 := Lib.hid (HC2.out rfl)
                      have hv20 : 0 ≤ vv ∧ vv ≤ 20 := by unfold Kn.okV at hb2; simpa using hb2
                      clear hbad2 HC2 hb2
                      have e3 : IntKind.i64.wrap (S + vv) = S + vv := IntWalk.i64_in _ (by omega)
                      go_wp2_with fail
                      go_roundw
                      case rel => exact ⟨x + 1, by omega, by go_num, by rw [hst.out], hok3, hb4⟩
                      case measure => simp [intOf]; omega
                  · have hx2 : x = nL := by omega
                    have hfull : r.take x = r := List.take_of_length_le (by have := Hm.out; have := Hmn.out; omega)
                    rw [hfull] at hall hsb ⊢
                    have hpos := (sumI_pos (fun v hv => (hall v hv).1)).2
                    have hrow : Kn.okRow nL r = decide (∃ v ∈ r, 0 < v) := by
                      rw [row_good (fun y hy => HC.out y (by have := Hm.out; have := Hmn.out; omega)), decide_eq_true (by rw [← Hm.out]; exact Hmn.out), Bool.true_and]
                    have Hx := Lib.hid hx2
                    clear hx2 hfull hall
                    obtain ⟨S, hS⟩ : ∃ s, s = Fl.sumI r := ⟨_, rfl⟩
                    rw [← hS] at hpos hsb ⊢
                    clear hS
                    by_cases hS0 : S = 0
                    · have e4 : (S == 0) = true := by simp [hS0]
                      have hr3 := Lib.hid (hbad.out (by rw [hrow, decide_eq_false_iff_not]; exact hpos.1 hS0))
                      clear hS0 hpos hsb hrow
                      go_wp2_with fail
                      go_ret
                      exact ⟨ret_int hr3.out.symm, hbx4⟩
                    · have e4 : (S == 0) = false := by simp [hS0]
                      have hok3 : Hid (∀ i, i < j + 1 → Kn.okRow L.length (V.getD i []) = true) := Lib.hid (by
                        have h5 := HB2.out (by
                          rw [hrow, decide_eq_true_iff]
                          exact Classical.byContradiction fun h => hS0 (hpos.2 h))
                        rw [← HnL.out]; exact h5)
                      have hb5 := hb3.trans (hb4.mono hb3.size)
                      clear hpos hrow
                      go_wp2_with fail
                      go_roundw
                      case rel => exact ⟨j + 1, by omega, by go_num, hok3, hb5⟩
                      case measure => simp [intOf]; omega
              · have e1 : ((m : Int) != (nL : Int)) = true := by simp; omega
                have hr2 := Lib.hid (hbad.out (by unfold Kn.okRow; rw [decide_eq_false (by rw [← Hm.out]; exact hmn)]; rfl))
                clear hmn
                go_wp2_with fail
                go_quiet (fail)
                go_wp2_with fail
                go_ret
                exact ⟨ret_int hr2.out.symm, below_drewN hbx _⟩
            · have hj2 : j = nV := by omega
              have hr' : Hid (R = 0) := Lib.hid (by
                rw [HR2.out]
                have : V.all (Kn.okRow L.length) = true := by
                  rw [List.all_eq_true]
                  intro v hv
                  obtain ⟨i, hi, rfl⟩ := List.getElem_of_mem hv
                  have := HB.out i (by have := HnV.out; omega)
                  rw [List.getD_eq_getElem?_getD, List.getElem?_eq_getElem hi] at this
                  exact this
                rw [this]; rfl)
              have Hj := Lib.hid hj2
              clear hj2
              go_wp2
              go_ret
              exact ⟨ret_int hr'.out.symm, hbx⟩
end Go.Proofs.Ytemlfklipkpacaa
