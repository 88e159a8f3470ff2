import Derived.Test.YtemlfklipkpacaaKp
/- Owners of package knife, and what the law asks of long lists. -/
namespace Go.Proofs.Ytemlfklipkpacaa
open Go.RowKit

def Kn.isO (V : List (List Int)) (o : Int) : Bool := decide (0 ≤ o) && decide (o < (V.length : Int))
def Kn.ocode (L : List Int) (V : List (List Int)) (o : Int) : Int := if Kn.val L V ≠ 0 then Kn.val L V else if Kn.isO V o then 0 else 4

set_option maxRecDepth 100000 in
set_option maxHeartbeats 2000000 in
theorem kisOwner_any (V : List (List Int)) (o : Int) (v : Value) (aoL : Option Addr) (nL cL : Nat) (hv : v = .slice aoL nL cL) (aoV : Option Addr) (nV cV : Nat) (w : World) (hn : nV = V.length) :
    Calls Try.prog 144 #[.agg #[v, .slice aoV nV cV], .int .i64 o] w fun e w' => e = .returned (.bool (Kn.isO V o)) ∧ Below w.heap.size w w' := by
  subst hv
  unfold Kn.isO
  rw [← hn]
  clear hn
  have hA := (Below.refl _ w).alloc (Nat.le_refl _) (.cells #[.slice aoL nL cL, .slice aoV nV cV] 57)
  have rf := heap_alloc_new w (.cells #[.slice aoL nL cL, .slice aoV nV cV] 57)
  by_cases h0 : o < 0
  · have hr : (decide (0 ≤ o) && decide (o < (nV : Int))) = false := by rw [decide_eq_false (by omega)]; rfl
    rw [hr]
    go_enter Try.func144, Try.ntmps144
    go_wp2
    go_ret
    exact ⟨rfl, hA⟩
  · by_cases h1 : o < (nV : Int)
    · have hr : (decide (0 ≤ o) && decide (o < (nV : Int))) = true := by rw [decide_eq_true (by omega), decide_eq_true h1]; rfl
      rw [hr]
      go_enter Try.func144, Try.ntmps144
      go_upto_region 1 with fail
      generalize w.alloc (.cells #[.slice aoL nL cL, .slice aoV nV cV] 57) = W0 at hA rf ⊢
      obtain ⟨⟨c0, c1⟩, -, -⟩ := row_fr rf
      go_wp2
      go_ret
      exact ⟨rfl, hA⟩
    · have hr : (decide (0 ≤ o) && decide (o < (nV : Int))) = false := by rw [decide_eq_true (by omega), decide_eq_false h1]; rfl
      rw [hr]
      go_enter Try.func144, Try.ntmps144
      go_upto_region 1 with fail
      generalize w.alloc (.cells #[.slice aoL nL cL, .slice aoV nV cV] 57) = W0 at hA rf ⊢
      obtain ⟨⟨c0, c1⟩, -, -⟩ := row_fr rf
      go_wp2
      go_ret
      exact ⟨rfl, hA⟩

set_option maxRecDepth 100000 in
set_option maxHeartbeats 4000000 in
theorem kvalidateOwner_any (L : List Int) (V : List (List Int)) (o : Int) (aoL : Option Addr) (nL cL : Nat) (aoV : Option Addr) (nV cV : Nat) (w : World) (hf : Fld w aoL nL aoV nV L V) (hl : nL ≤ 100) (hv : nV ≤ 100) (hr : ∀ r ∈ V, r.length ≤ 100) :
    Calls Try.prog 112 #[.agg #[.slice aoL nL cL, .slice aoV nV cV], .int .i64 o] w fun e w' => e = .returned (.int .i64 (Kn.ocode L V o)) ∧ Below w.heap.size w w' := by
  obtain ⟨R, hR⟩ : ∃ r, r = Kn.ocode L V o := ⟨_, rfl⟩
  rw [← hR]
  have HR := Lib.hid hR
  clear hR
  have hA := (Below.refl _ w).alloc (Nat.le_refl _) (.cells #[.slice aoL nL cL, .slice aoV nV cV] 57)
  have rf := heap_alloc_new w (.cells #[.slice aoL nL cL, .slice aoV nV cV] 57)
  go_enter Try.func112, Try.ntmps112
  go_upto_region 1 with fail
  generalize w.alloc (.cells #[.slice aoL nL cL, .slice aoV nV cV] 57) = W0 at hA rf ⊢
  obtain ⟨⟨c0, c1⟩, -, -⟩ := row_fr rf
  go_wp2_with fail
  refine (kValidate_any L V _ _ _ _ _ _ W0 (hf.below hA) hl hv hr).mono ?_
  rintro e w1 ⟨rfl, hb1⟩
  have hB1 := hA.trans (hb1.mono hA.size)
  have rf1 := heap_keep hb1 rf
  clear c0 c1 rf hb1 hA
  obtain ⟨⟨c0, c1⟩, -, -⟩ := row_fr rf1
  by_cases hz : Kn.val L V = 0
  · have hR1 : R = if Kn.isO V o then 0 else 4 := by rw [HR.out]; unfold Kn.ocode; rw [if_neg (by simpa using hz)]
    have HR1 := Lib.hid hR1
    clear hR1
    rw [hz]
    go_wp2_with fail
    refine (kisOwner_any V o _ _ _ _ rfl _ _ _ w1 hf.nv).mono ?_
    rintro e w2 ⟨rfl, hb2⟩
    have hB2 := hB1.trans (hb2.mono hB1.size)
    obtain ⟨b, hb⟩ : ∃ b, b = Kn.isO V o := ⟨_, rfl⟩
    rw [← hb] at HR1 ⊢
    clear hb
    cases b with
    | true =>
      go_wp2_with fail
      go_ret
      exact ⟨ret_int HR1.out.symm, hB2⟩
    | false =>
      go_wp2_with fail
      go_ret
      exact ⟨ret_int HR1.out.symm, hB2⟩
  · have hr' := Lib.hid (show R = Kn.val L V by rw [HR.out]; unfold Kn.ocode; rw [if_pos hz])
    have hne : (Kn.val L V != 0) = true := by simp [hz]
    generalize Kn.val L V = C at hz hne hr' ⊢
    go_wp2_with fail
    go_ret
    exact ⟨ret_int hr'.out.symm, hB1⟩

/-- Whether a field has long lists. -/
def Kn.lng (nL nV : Nat) (V : List (List Int)) : Bool := decide (100 < nL) || (decide (100 < nV) || V.any fun r => decide (100 < r.length))
set_option maxRecDepth 100000 in
set_option maxHeartbeats 4000000 in
theorem klong_any (L : List Int) (V : List (List Int)) (aoL : Option Addr) (nL cL : Nat) (aoV : Option Addr) (nV cV : Nat) (w : World) (hf : Fld w aoL nL aoV nV L V) :
    Calls Try.prog 41 #[.agg #[.slice aoL nL cL, .slice aoV nV cV]] w fun e w' => e = .returned (.bool (Kn.lng nL nV V)) ∧ Below w.heap.size w w' := by
  obtain ⟨R, hR⟩ : ∃ r, r = Kn.lng nL nV V := ⟨_, rfl⟩
  rw [← hR]
  have HR := Lib.hid hR
  clear hR
  have HnV := Lib.hid hf.nv
  have hA := (Below.refl _ w).alloc (Nat.le_refl _) (.cells #[.slice aoL nL cL, .slice aoV nV cV] 57)
  have rf := heap_alloc_new w (.cells #[.slice aoL nL cL, .slice aoV nV cV] 57)
  go_enter Try.func41, Try.ntmps41
  go_upto_region 1 with fail
  generalize w.alloc (.cells #[.slice aoL nL cL, .slice aoV nV cV] 57) = W0 at hA rf ⊢
  obtain ⟨⟨c0, c1⟩, -, -⟩ := row_fr rf
  replace hf := hf.below hA
  have hs0 := heap_lt rf
  obtain ⟨G, hG⟩ : ∃ g, g = w.heap.size := ⟨_, rfl⟩
  rw [← hG] at rf c0 c1 hs0 ⊢
  have HG := Lib.hid hG
  clear hG
  by_cases b1 : 100 < nL
  · have hr := Lib.hid (show R = true by rw [HR.out]; unfold Kn.lng; rw [decide_eq_true b1]; rfl)
    go_wp2
    go_ret
    exact ⟨ret_bool hr.out.symm, hA⟩
  by_cases b2 : 100 < nV
  · have hr := Lib.hid (show R = true by rw [HR.out]; unfold Kn.lng; rw [decide_eq_false b1, decide_eq_true b2]; rfl)
    go_wp2
    go_ret
    exact ⟨ret_bool hr.out.symm, hA⟩
  have HR1 := Lib.hid (show R = V.any fun r => decide (100 < r.length) by rw [HR.out]; unfold Kn.lng; rw [decide_eq_false b1, decide_eq_false b2]; rfl)
  go_wp2
  go_loopw [3] (fun i wr => ∃ k : Nat, k ≤ nV ∧ i = .int .i64 k ∧ Hid (∀ j, j < k → (V.getD j []).length ≤ 100) ∧ Below W0.heap.size W0 wr) (fun i _ => nV - (intOf i).toNat)
  case atStart => exact ⟨0, Nat.zero_le _, rfl, Lib.hid (fun j hj => by omega), Below.refl _ _⟩
  case round =>
    obtain ⟨k, hk, rfl, HA, hb⟩ := hrel
    have hbw := hA.trans (hb.mono hA.size)
    have q0 := keep_cell hb c0
    have q1 := keep_cell hb c1
    by_cases hlt : k < nV
    · have hkl : k < V.length := by have := HnV.out; omega
      obtain ⟨b, off, aoi, ci, rfl, z0, -, -⟩ := (hf.below hb).hV.at hkl
      have i1 : (k : Int) < (nV : Int) := by omega
      obtain ⟨m, hm⟩ : ∃ m, m = (V.getD k []).length := ⟨_, rfl⟩
      rw [← hm] at z0
      have Hm := Lib.hid hm
      clear hm
      by_cases h1 : 100 < m
      · have hr := Lib.hid (show R = true by
          rw [HR1.out, List.any_eq_true]
          refine ⟨V.getD k [], ?_, by rw [← Hm.out]; simpa using h1⟩
          rw [List.getD_eq_getElem?_getD, List.getElem?_eq_getElem hkl]
          exact List.getElem_mem hkl)
        go_wp2
        go_ret
        exact ⟨ret_bool hr.out.symm, hbw⟩
      · have HA2 : Hid (∀ j, j < k + 1 → (V.getD j []).length ≤ 100) := Lib.hid (fun j hj => by
          rcases Nat.lt_or_ge j k with h2 | h2
          · exact HA.out j h2
          · rw [show j = k by omega, ← Hm.out]; omega)
        go_wp2
        go_roundw
        case rel => exact ⟨k + 1, by omega, by go_num, HA2, hb⟩
        case measure => simp [intOf]; omega
    · have hk2 : k = nV := by omega
      have hr := Lib.hid (show R = false by
        rw [HR1.out, List.any_eq_false]
        intro r hr
        obtain ⟨j, hj, rfl⟩ := List.getElem_of_mem hr
        have := HA.out j (by have := HnV.out; omega)
        rw [List.getD_eq_getElem?_getD, List.getElem?_eq_getElem hj] at this
        simpa using this)
      have Hk := Lib.hid hk2
      clear hk2
      go_wp2
      go_ret
      exact ⟨ret_bool hr.out.symm, hbw⟩
end Go.Proofs.Ytemlfklipkpacaa
