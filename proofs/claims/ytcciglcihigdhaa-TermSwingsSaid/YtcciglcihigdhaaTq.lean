import Derived.Test.YtcciglcihigdhaaTp
/- The law TermSwings. -/
namespace Go.Proofs.Ytcciglcihigdhaa
open Go.Joins Go.Deep Go.ChangeShapes Go.WideShapes Go.ChangeAt Go.RowKit

set_option maxRecDepth 100000 in
set_option maxHeartbeats 8000000 in
theorem termSwings_any (l : List (Int × Bool)) (ao : Option Addr) (n cap : Nat) (w : World) (hI : Vts w ao l) (hn : n = l.length) :
    Calls Try.prog 14 #[.slice ao n cap] w fun e w' => e = .returned (.bool true) ∧ Below w.heap.size w w' := by
  have Hn := Lib.hid hn
  clear hn
  have hA := Below.refl w.heap.size w
  go_enter Try.func14, Try.ntmps14
  by_cases h100 : 100 < n
  · have h100i : (100 : Int) < (n : Int) := by omega
    go_wp2_with fail
    refine ((tknown_any w)).mono ?_
    rintro e w1 ⟨rfl, hbb⟩
    replace hA := hA.trans (hbb.mono hA.size)
    clear hbb
    go_wp2_with fail
    go_ret
    exact ⟨rfl, hA⟩
  · have h100i : ¬ (100 : Int) < (n : Int) := by omega
    have hX := Swing_any l ao n cap w hI Hn.out (by omega)
    have hlen : Hid ((Ve.swc l).length ≤ 100) := Lib.hid (by unfold Ve.swc; split; exact Nat.le_trans (Ve.sw_len l _) (by rw [← Hn.out]; omega); simp)
    obtain ⟨C, hC⟩ : ∃ r, r = Ve.code l := ⟨_, rfl⟩
    obtain ⟨s, hs⟩ : ∃ r, r = Ve.swc l := ⟨_, rfl⟩
    rw [← hC, ← hs] at hX
    rw [← hs] at hlen
    have HC := Lib.hid (And.intro hC hs)
    clear hC hs
    go_wp2_with fail
    refine hX.mono ?_
    clear hX
    rintro e w1 ⟨⟨ao2, m, cap2, rfl, hm, hI2⟩, hbb⟩
    replace hA := hA.trans (hbb.mono hA.size)
    replace hI := hI.below hbb
    clear hbb
    have Hm := Lib.hid hm
    clear hm
    have hX := refSwing_any l ao n cap w1 hI Hn.out (by omega)
    rw [← HC.out.1, ← HC.out.2] at hX
    go_wp2_with fail
    refine hX.mono ?_
    clear hX
    rintro e w2 ⟨⟨ao3, m3, cap3, rfl, hm3, hI3⟩, hbb⟩
    replace hA := hA.trans (hbb.mono hA.size)
    replace hI2 := hI2.below hbb
    clear hbb
    have Hm3 := Lib.hid hm3
    clear hm3
    have hX := sameInts_any s s ao2 m cap2 ao3 m3 cap3 w2 hI2 Hm.out hI3 Hm3.out (by have := Hm.out; have := hlen.out; omega) (by have := Hm3.out; have := hlen.out; omega)
    rw [decide_eq_true rfl] at hX
    clear hI2 hI3
    go_wp2_with fail
    refine hX.mono ?_
    clear hX
    rintro e w3 ⟨rfl, hbb⟩
    replace hA := hA.trans (hbb.mono hA.size)
    clear hbb
    go_wp2_with fail
    refine (tknown_any w3).mono ?_
    rintro e w4 ⟨rfl, hbb⟩
    replace hA := hA.trans (hbb.mono hA.size)
    go_wp2_with fail
    go_ret
    exact ⟨rfl, hA⟩
end Go.Proofs.Ytcciglcihigdhaa
