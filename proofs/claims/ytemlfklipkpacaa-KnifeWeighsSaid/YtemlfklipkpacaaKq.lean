import Derived.Test.YtemlfklipkpacaaKo
import Derived.Test.YtemlfklipkpacaaKp
/- Knife, and the errors of a field that must have two owners. -/
namespace Go.Proofs.Ytemlfklipkpacaa
open Go.RowKit

/-- What Knife answers. -/
def Kn.knL (L : List Int) (V : List (List Int)) : List Pc := if Kn.val L V = 0 then (Kn.divide L V).map pc else []
theorem own_none {w : World} {base size : Nat} {e : TypeId} : w.ownsRow base e size (.slice none 0 0) 0 [] := ⟨by simp, .inl ⟨rfl, rfl⟩⟩

set_option maxRecDepth 100000 in
set_option maxHeartbeats 4000000 in
theorem kKnife_any (L : List Int) (V : List (List Int)) (aoL : Option Addr) (nL cL : Nat) (aoV : Option Addr) (nV cV : Nat) (w : World) (hf : Fld w aoL nL aoV nV L V) (hl : nL ≤ 100) (hv : nV ≤ 100) (hr : ∀ r ∈ V, r.length ≤ 100) :
    Calls Try.prog 43 #[.agg #[.slice aoL nL cL, .slice aoV nV cV]] w fun e w' => ∃ v, e = .returned (.tuple #[v, .int .i64 (Kn.val L V)]) ∧ w'.ownsRow w.heap.size 86 5 v (Kn.knL L V).length (flat5 (Kn.knL L V)) ∧ Below w.heap.size w w' := by
  have hA := (Below.refl _ w).alloc (Nat.le_refl _) (.cells #[.slice aoL nL cL, .slice aoV nV cV] 57)
  have rf := heap_alloc_new w (.cells #[.slice aoL nL cL, .slice aoV nV cV] 57)
  go_enter Try.func43, Try.ntmps43
  go_upto_region 1 with fail
  generalize w.alloc (.cells #[.slice aoL nL cL, .slice aoV nV cV] 57) = W0 at hA rf ⊢
  obtain ⟨⟨c0, c1⟩, -, -⟩ := row_fr rf
  go_wp2_with fail
  refine (kValidate_any L V _ _ _ _ _ _ W0 (hf.below hA) hl hv hr).mono ?_
  rintro e w1 ⟨rfl, hb1⟩
  have hB1 := hA.trans (hb1.mono hA.size)
  have rf1 := heap_keep hb1 rf
  clear c0 c1 rf hb1 hA
  by_cases hz : Kn.val L V = 0
  · have hok := Kn.val_ok.1 hz
    have hk : Hid (Kn.knL L V = (Kn.divide L V).map pc) := Lib.hid (by unfold Kn.knL; rw [if_pos hz])
    rw [hz]
    obtain ⟨⟨c0, c1⟩, -, -⟩ := row_fr rf1
    go_wp2_with fail
    refine (kdivide_any L V _ _ _ _ _ _ w1 (hf.below hB1) hok).mono ?_
    rintro e w2 ⟨v, rfl, hov, hb2⟩
    go_wp2_with fail
    go_ret2
    refine ⟨v, by simp [hz], ?_, hB1.trans (hb2.mono hB1.size)⟩
    rw [hk.out, List.length_map]
    exact own_mono hov hB1.size
  · have hk : Hid (Kn.knL L V = []) := Lib.hid (by unfold Kn.knL; rw [if_neg hz])
    have hne : (Kn.val L V != 0) = true := by simp [hz]
    obtain ⟨C, hC⟩ : ∃ C, Kn.val L V = C := ⟨_, rfl⟩
    rw [hC] at hz hne ⊢
    have HC := Lib.hid hC
    clear hC
    go_wp2_with fail
    go_ret2
    refine ⟨.slice none 0 0, by simp [HC.out], ?_, hB1⟩
    rw [hk.out]
    exact own_none

/-- The error of a field that must have two owners. -/
def Kn.val2 (L : List Int) (V : List (List Int)) : Int := if Kn.val L V ≠ 0 then Kn.val L V else if V.length = 2 then 0 else 5
set_option maxRecDepth 100000 in
set_option maxHeartbeats 4000000 in
theorem kvalidateTwo_any (L : List Int) (V : List (List Int)) (aoL : Option Addr) (nL cL : Nat) (aoV : Option Addr) (nV cV : Nat) (w : World) (hf : Fld w aoL nL aoV nV L V) (hl : nL ≤ 100) (hv : nV ≤ 100) (hr : ∀ r ∈ V, r.length ≤ 100) :
    Calls Try.prog 99 #[.agg #[.slice aoL nL cL, .slice aoV nV cV]] w fun e w' => e = .returned (.int .i64 (Kn.val2 L V)) ∧ Below w.heap.size w w' := by
  have Hn := Lib.hid hf.nv
  obtain ⟨R, hR⟩ : ∃ r, r = Kn.val2 L V := ⟨_, rfl⟩
  rw [← hR]
  have HR := Lib.hid hR
  clear hR
  have hA := (Below.refl _ w).alloc (Nat.le_refl _) (.cells #[.slice aoL nL cL, .slice aoV nV cV] 57)
  have rf := heap_alloc_new w (.cells #[.slice aoL nL cL, .slice aoV nV cV] 57)
  go_enter Try.func99, Try.ntmps99
  go_upto_region 1 with fail
  generalize w.alloc (.cells #[.slice aoL nL cL, .slice aoV nV cV] 57) = W0 at hA rf ⊢
  obtain ⟨⟨c0, c1⟩, -, -⟩ := row_fr rf
  go_wp2_with fail
  refine (kValidate_any L V _ _ _ _ _ _ W0 (hf.below hA) hl hv hr).mono ?_
  rintro e w1 ⟨rfl, hb1⟩
  have hB1 := hA.trans (hb1.mono hA.size)
  have rf1 := heap_keep hb1 rf
  clear c0 c1 rf hb1 hA
  obtain ⟨⟨c0, c1⟩, -, -⟩ := row_fr rf1
  by_cases hz : Kn.val L V = 0
  · rw [hz]
    by_cases h2 : nV = 2
    · have hr' := Lib.hid (show R = 0 by rw [HR.out]; unfold Kn.val2; rw [if_neg (by simpa using hz), if_pos (by rw [← Hn.out]; exact h2)])
      have q1 : ((nV : Int) != 2) = false := by simp; omega
      have H2 := Lib.hid h2
      clear h2
      go_wp2_with fail
      go_ret
      exact ⟨ret_int hr'.out.symm, hB1⟩
    · have hr' := Lib.hid (show R = 5 by rw [HR.out]; unfold Kn.val2; rw [if_neg (by simpa using hz), if_neg (by rw [← Hn.out]; exact h2)])
      have q1 : ((nV : Int) != 2) = true := by simp; omega
      clear h2
      go_wp2_with fail
      go_ret
      exact ⟨ret_int hr'.out.symm, hB1⟩
  · have hr' := Lib.hid (show R = Kn.val L V by rw [HR.out]; unfold Kn.val2; rw [if_pos hz])
    have hne : (Kn.val L V != 0) = true := by simp [hz]
    generalize Kn.val L V = C at hz hne hr' ⊢
    go_wp2_with fail
    go_ret
    exact ⟨ret_int hr'.out.symm, hB1⟩
end Go.Proofs.Ytemlfklipkpacaa
